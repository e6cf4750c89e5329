/-
  z9k, zur
-/
import Derived.Test.YtbbjlfbemibfcaaGreatMrr27
import Derived.Test.YtbbjlfbemibfcaaGreatMrr21
import Derived.Test.YtbbjlfbemibfcaaGreatMrr46
import Derived.Test.YtbbjlfbemibfcaaGreatMrr47
import Derived.Test.YtbbjlfbemibfcaaGreatMrr48
import Derived.Test.YtbbjlfbemibfcaaGreatMrr16
set_option linter.unusedVariables false
set_option linter.unusedSimpArgs false
section
namespace Go.Proofs.YtbbjlfbemibfcaaGreat.book
open Go.RowKit Go.Proofs.YtbbjlfbemibfcaaGreat
open Go.Proofs.YtbbjlfbemibfcaaGreat.order (Or open_ worth oz)
open Go.Proofs.YtbbjlfbemibfcaaGreat.cell (Ce Ex)
open Go.Proofs.YtbbjlfbemibfcaaGreat.rec (Rc)
set_option maxRecDepth 20000
variable {w0:World} {D:List Fact}
def Qe (a b:Int):Bool:=decide (jq (a - b))
def Oj (a b:Int):Bool:=decide (jq (a * b))
theorem q3r {a b:Int} (h:yu a b=true):jq (a+b):=of_decide_eq_true h
theorem qwo {a b:Int} (h:yu a b=false):¬ jq (a+b):=of_decide_eq_false h
theorem q3s {a b:Int} (h:Qe a b=true):jq (a - b):=of_decide_eq_true h
theorem q7a {a b:Int} (h:Qe a b=false):¬ jq (a - b):=of_decide_eq_false h
theorem Td {a b:Int} (h:Oj a b=true):zf a b=0:=qn4.2 (of_decide_eq_true h)
theorem qwp {a b:Int} (h:Oj a b=false):¬ zf a b=0:=fun e=>of_decide_eq_false h (qn4.1 e)
theorem Tf {a b:Int} (ha:jq a) (hb:jq b):iq Tryz.prog w0 D 58 #[.int .i64 a,.int .i64 b] (.tuple #[.int .i64 (mg a b),.bool (yu a b)]):=by
 unfold mg yu
 by_cases h:jq (a+b)
 ·rw [if_pos h,decide_eq_true h]
  exact Rf (fun w=>num.qwn a b w ha hb h)
 ·rw [if_neg h,decide_eq_false h]
  exact Rf (fun w=>num.qri a b w ha hb h)
theorem q4u {a b:Int} (ha:jq a) (hb:jq b):iq Tryz.prog w0 D 87 #[.int .i64 a,.int .i64 b] (.tuple #[.int .i64 (su a b),.bool (Qe a b)]):=by
 unfold su Qe
 by_cases h:jq (a - b)
 ·rw [if_pos h,decide_eq_true h]
  exact Rf (fun w=>num.q68 a b w ha hb h)
 ·rw [if_neg h,decide_eq_false h]
  exact Rf (fun w=>num.q02 a b w ha hb h)
theorem q4v {a b:Int} (ha:jq a) (hb:jq b):qg Tryz.prog w0 D 86 #[.int .i64 a,.int .i64 b] {v:Int // jq (a * b)→v=a * b} (fun x=>.tuple #[.int .i64 x.1,.bool (Oj a b)]) (fun x=>[]):=fun w _ _ =>
 (num.q3q a b w ha hb).mono (by
  rintro e w' ⟨⟨v,rfl,_,hv⟩,rfl⟩
  exact ⟨⟨v,hv⟩,rfl,Below.refl _ _,zh⟩)
theorem zaj (r:Rc) (hf:r.fine) (w:World):Calls Tryz.prog 56 #[.agg (rec.rc r)] w fun e w'=>e = .returned (.bool (rec.right r))∧Below w.heap.size w w':=rec.q00 r.k r.o r.a r.y r.d r.q r.p r.l r.s r.n r.on r.z r.t hf rfl w
def orc (o:Or):Rc:=⟨1,o.i,o.a,o.y,o.d,o.q,o.p,0,0,0,false,0,0⟩
theorem q3t {o:Or} (h:o.fine):(orc o).fine:=by
 obtain ⟨h1,h2,h3,h4,h5,h6,_⟩:=h
 exact ⟨rec.in1,h1,h2,h3,h4,h5,h6,rec.En,rec.En,rec.En,rec.En,rec.En⟩
theorem qt9 (i a y d q p:Int):rec.right ⟨1,i,a,y,d,q,p,0,0,0,false,0,0⟩=true ↔ (1≤i∧i≤1000000000000∧0≤a∧a < 8∧0≤y∧y < 8∧1≤d∧d≤2∧1≤q∧1≤p):=by
 unfold rec.right rec.may
 simp [rec.rd,rec.nums,rec.Ap,rec.Ec,rec.qc4]
 omega
theorem q06 {o:Or} (h:order.aj o):rec.right (orc o)=true:=(qt9 ..).2 (by unfold order.aj at h;omega)
theorem qie {o:Or} (h:rec.right (orc o)=true) (h2:(1≤o.i∧o.i≤1000000000000∧0≤o.a∧o.a < 8∧0≤o.y∧o.y < 8∧1≤o.d∧o.d≤2∧1≤o.q∧1≤o.p)→order.aj o):order.aj o:=h2 ((qt9 ..).1 h)
theorem qr0 {o:Or} (h:order.aj o):(.bool true:Value) = .bool (order.right o):=by rw [order.dh.2 h]
theorem E8 {o:Or} (h:¬ order.aj o):(.bool false:Value) = .bool (order.right o):=by rw [order.jo.2 h]
theorem q9f {c:Ce} (h:cell.aj c):(.bool true:Value) = .bool (cell.right c):=by rw [cell.dh.2 h]
theorem qnc {c:Ce} (h:¬ cell.aj c):(.bool false:Value) = .bool (cell.right c):=by rw [cell.jo.2 h]
theorem q4w {a b:Int} (h:a=b):(.int .i64 a:Value) = .int .i64 b:=by rw [h]
section
variable {o:Or} {n:order.Nt} (h1:order.right o=true) (h2:order.Lh n=true) (h3:n.o=o.i)
include h1 h2 h3
end
theorem qoj (o:Or)  (ho:o.fine) (w:World):Calls Tryz.prog 23 #[.agg (order.oc o)] w fun e w'=>e = .returned (.bool (order.right o))∧Below w.heap.size w w' :=
 uw (fn:=Tryz.f23) (r:=.bool (order.right o)) (t:=.cs (rec.right (orc o)) (.s (.k (.k .z)) (.k (.s (.k .z) (.k (.s .z (.s (.k (.s (.k (.k (.s (.k (.k (.s (.k (.s .z .z)) (.k .z)))) (.s (.s .z .z) (.s (.k (.k .z)) (.k .z)))))) (.k (.k (.m true (.k .z)))))) (.k (.k (.k (.s (.k .z) (.k (.s .z (.s (.k (.k (.k .z))) (.s (.s .z .z) (.s (.k (.k .z)) (.k .z)))))))))))))))) .z) (X :=
 let k0:=(.bool false:Value) = .bool (order.right o);let k1:=(.bool true:Value) = .bool (order.right o);let k2 := !decide (o.f=o.q);let k3:=decide (o.h=1);let k4:=decide (o.h=2);let k5:=decide (o.h=3);let k6:=rec.right (orc o);let k7:=decide (o.m < 1); ∀ g0:Nat,iq Tryz.prog w [] 56 #[.agg #[.int .i64 1,.int .i64 o.i,.int .i64 o.a,.int .i64 o.y,.int .i64 o.d,.int .i64 o.q,.int .i64 o.p,.int .i64 0,.int .i64 0,.int .i64 0,.bool false,.int .i64 0,.int .i64 0]] (.bool k6)∧(k6=true→((decide (o.f < 0))=true→k0)∧((decide (o.f < 0))=false→((decide (o.f > o.q))=true→k0)∧((decide (o.f > o.q))=false→((decide (o.v < 0))=true→k0)∧((decide (o.v < 0))=false→((decide (o.m=0))=true→((decide (o.r=0))=true→(k3=true→((decide (o.f=0))=true→((decide (o.v=0))=true→k1)∧((decide (o.v=0))=false→k0))∧((decide (o.f=0))=false→k0))∧(k3=false→(k4=true→(k2=true→k1)∧(k2=false→k0))∧(k4=false→(k5=true→k1)∧(k5=false→k0))))∧((decide (o.r=0))=false→k7=true∧k0))∧((decide (o.m=0))=false→(k7=true→k0)∧(k7=false→((decide (o.r < 1))=true→k0)∧((decide (o.r < 1))=false→(k3=true→k0)∧(k3=false→(k4=true→(k2=true→k1)∧(k2=false→k0))∧(k4=false→(k5=true→k0)∧(k5=false→k0))))))))))∧(k6=false→k0)) Tryz.func23 (by kernel_rfl)
 (fun g0=>⟨gives (zaj (orc o) (q3t ho)),fun h1=>⟨fun h2=>have h2:o.f < 0:=(by simpa using h2)
(E8 (fun h=>by unfold order.aj at h;omega)),
 fun h2=>have h2:¬ o.f < 0:=(by simpa using h2)
⟨fun h3=>have h3:o.q < o.f:=(by simpa using h3)
(E8 (fun h=>by unfold order.aj at h;omega)),
 fun h3=>have h3:¬ o.q < o.f:=(by simpa using h3)
⟨fun h4=>have h4:o.v < 0:=(by simpa using h4)
(E8 (fun h=>by unfold order.aj at h;omega)),
 fun h4=>have h4:¬ o.v < 0:=(by simpa using h4)
⟨fun h5=>have h5:o.m=0:=(by simpa using h5)
⟨fun h6=>have h6:o.r=0:=(by simpa using h6)
⟨fun h7=>have h7:o.h=1:=(by simpa using h7)
⟨fun h8=>have h8:o.f=0:=(by simpa using h8)
⟨fun h9=>have h9:o.v=0:=(by simpa using h9)
(qr0 (qie h1 (by unfold order.aj;omega))),
 fun h9=>have h9:¬ o.v=0:=(by simpa using h9)
(E8 (fun h=>by unfold order.aj at h;omega))⟩,
 fun h8=>have h8:¬ o.f=0:=(by simpa using h8)
(E8 (fun h=>by unfold order.aj at h;omega))⟩,
 fun h7=>have h7:¬ o.h=1:=(by simpa using h7)
⟨fun h10=>have h10:o.h=2:=(by simpa using h10)
⟨fun h11=>have h11:¬ o.f=o.q:=(by simpa using h11)
(qr0 (qie h1 (by unfold order.aj;omega))),
 fun h11=>have h11:o.f=o.q:=(by simpa using h11)
(E8 (fun h=>by unfold order.aj at h;omega))⟩,
 fun h10=>have h10:¬ o.h=2:=(by simpa using h10)
⟨fun h12=>have h12:o.h=3:=(by simpa using h12)
(qr0 (qie h1 (by unfold order.aj;omega))),
 fun h12=>have h12:¬ o.h=3:=(by simpa using h12)
(E8 (fun h=>by unfold order.aj at h;omega))⟩⟩⟩,
 fun h6=>have h6:¬ o.r=0:=(by simpa using h6)
⟨by simp only [dq];omega,(E8 (fun h=>by unfold order.aj at h;omega))⟩⟩,
 fun h5=>have h5:¬ o.m=0:=(by simpa using h5)
⟨fun h13=>have h13:o.m < 1:=(by simpa using h13)
(E8 (fun h=>by unfold order.aj at h;omega)),
 fun h13=>have h13:¬ o.m < 1:=(by simpa using h13)
⟨fun uy=>have uy:o.r < 1:=(by simpa using uy)
(E8 (fun h=>by unfold order.aj at h;omega)),
 fun uy=>have uy:¬ o.r < 1:=(by simpa using uy)
⟨fun h15=>have h15:o.h=1:=(by simpa using h15)
(E8 (fun h=>by unfold order.aj at h;omega)),
 fun h15=>have h15:¬ o.h=1:=(by simpa using h15)
⟨fun h16=>have h16:o.h=2:=(by simpa using h16)
⟨fun h17=>have h17:¬ o.f=o.q:=(by simpa using h17)
(qr0 (qie h1 (by unfold order.aj;omega))),
 fun h17=>have h17:o.f=o.q:=(by simpa using h17)
(E8 (fun h=>by unfold order.aj at h;omega))⟩,
 fun h16=>have h16:¬ o.h=2:=(by simpa using h16)
⟨fun h18=>have h18:o.h=3:=(by simpa using h18)
(E8 (fun h=>by unfold order.aj at h;omega)),
 fun h18=>have h18:¬ o.h=3:=(by simpa using h18)
(E8 (fun h=>by unfold order.aj at h;omega))⟩⟩⟩⟩⟩⟩⟩⟩⟩,
 fun h1=>(E8 (fun h=>(by have:=q06 h;rw [h1] at this;cases this)))⟩)
theorem q9g (o:Or)  (ho:o.fine) (w:World):Calls Tryz.prog 59 #[.agg (order.oc o)] w fun e w'=>e = .returned (.int .i64 (open_ o))∧Below w.heap.size w w' :=
 uw (fn:=Tryz.f59) (r:=.int .i64 (open_ o)) (t:=.cs (order.right o) (.k (.s .z (.e (.int .i64 (o.q - o.f)) (.s (.e (.int .i64 (o.m - o.f)) .z) .z)))) (.k .z)) (X :=
 let k0:=(.int .i64 0:Value) = .int .i64 (open_ o);let k1:=order.right o; ∀ g0:Nat,iq Tryz.prog w [] 23 #[.agg (order.oc o)] (.bool k1)∧(k1=true→((decide (o.h=3))=true→k0)∧((decide (o.h=3))=false→(.int .i64 (IntKind.i64.wrap (o.q - o.f)):Value) = .int .i64 (o.q - o.f)∧((decide (o.m > o.q))=true→(.int .i64 (IntKind.i64.wrap (o.m - o.f)):Value) = .int .i64 (o.m - o.f)∧((.int .i64 (o.m - o.f):Value) = .int .i64 (open_ o)))∧((decide (o.m > o.q))=false→((.int .i64 (o.q - o.f):Value) = .int .i64 (open_ o)))))∧(k1=false→k0)) Tryz.func59 (by kernel_rfl)
 (fun g0=>⟨gives (qoj o ho),fun h1=>⟨fun h2=>have h2:o.h=3:=(by simpa using h2)
(by rw [qo6 (.inr h2)]),
 fun h2=>have h2:¬ o.h=3:=(by simpa using h2)
⟨lg rfl (by have:=N7 ho h1;omega) (by have:=N7 ho h1;omega),⟨fun h3=>have h3:o.q < o.m:=(by simpa using h3)
⟨lg rfl (by have:=N7 ho h1;omega) (by have:=N7 ho h1;omega),(q4w (by rw [qs3 h1 h2];omega))⟩,
 fun h3=>have h3:¬ o.q < o.m:=(by simpa using h3)
(q4w (by rw [qs3 h1 h2];omega))⟩⟩⟩,
 fun h1=>(by rw [qo6 (.inl h1)])⟩)
theorem q7b (o:Or)  (ho:o.fine) (w:World):Calls Tryz.prog 57 #[.agg (order.oc o)] w fun e w'=>e = .returned (.tuple #[.int .i64 (worth o).1,.int .i64 (worth o).2])∧Below w.heap.size w w' :=
 uw (fn:=Tryz.f57) (r:=.tuple #[.int .i64 (worth o).1,.int .i64 (worth o).2]) (t:=.cs (order.right o) (.s .z (.e (.int .i64 (o.q - o.f)) (.cm ({v:Int // jq ((o.q - o.f) * o.p)→v=(o.q - o.f) * o.p}) (fun x=>.tuple #[.int .i64 x.1,.bool ((Oj (o.q - o.f) o.p))]) (fun x=>[]) (fun x3=>.s (.k (.s (.e (.int .i64 (o.m - o.f)) (.cm ({v:Int // jq ((o.m - o.f) * o.r)→v=(o.m - o.f) * o.r}) (fun x=>.tuple #[.int .i64 x.1,.bool ((Oj (o.m - o.f) o.r))]) (fun x=>[]) (fun x6=>.s (.k (.s .z .z)) (.k .z)))) .z)) (.k .z))))) .z) (X :=
 let k0:Array Value:=#[.int .i64 (worth o).1,.int .i64 (worth o).2];let k1:=(.tuple #[.int .i64 0,.int .i64 3]:Value) = .tuple k0;let k2:=Oj (o.q - o.f) o.p;let k3:=Oj (o.m - o.f) o.r;let k4:=order.right o; ∀ g0:Nat,iq Tryz.prog w [] 23 #[.agg (order.oc o)] (.bool k4)∧(k4=true→((decide (o.h=3))=true→((.tuple #[.int .i64 0,.int .i64 0]:Value) = .tuple k0))∧((decide (o.h=3))=false→(.int .i64 (IntKind.i64.wrap (o.q - o.f)):Value) = .int .i64 (o.q - o.f)∧qg Tryz.prog w [] 86 #[.int .i64 (o.q - o.f),.int .i64 o.p] ({v:Int // jq ((o.q - o.f) * o.p)→v=(o.q - o.f) * o.p}) (fun x=>.tuple #[.int .i64 x.1,.bool (k2)]) (fun x=>[])∧∀ x3:{v:Int // jq ((o.q - o.f) * o.p)→v=(o.q - o.f) * o.p},let k5:=(.tuple #[.int .i64 x3.1,.int .i64 0]:Value) = .tuple k0;(k2=true→((decide (o.m > o.f))=true→(.int .i64 (IntKind.i64.wrap (o.m - o.f)):Value) = .int .i64 (o.m - o.f)∧qg Tryz.prog w [] 86 #[.int .i64 (o.m - o.f),.int .i64 o.r] ({v:Int // jq ((o.m - o.f) * o.r)→v=(o.m - o.f) * o.r}) (fun x=>.tuple #[.int .i64 x.1,.bool (k3)]) (fun x=>[])∧∀ x6:{v:Int // jq ((o.m - o.f) * o.r)→v=(o.m - o.f) * o.r},(k3=true→((decide (x6.1 > x3.1))=true→((.tuple #[.int .i64 x6.1,.int .i64 0]:Value) = .tuple k0))∧((decide (x6.1 > x3.1))=false→k5))∧(k3=false→k1))∧((decide (o.m > o.f))=false→k5))∧(k2=false→k1)))∧(k4=false→((.tuple #[.int .i64 0,.int .i64 1]:Value) = .tuple k0))) Tryz.func57 (by kernel_rfl)
 (fun g0=>⟨gives (qoj o ho),fun h1=>⟨fun h2=>have h2:o.h=3:=(by simpa using h2)
(by rw [qvi h1 h2]),
 fun h2=>have h2:¬ o.h=3:=(by simpa using h2)
⟨lg rfl (by have:=N7 ho h1;omega) (by have:=N7 ho h1;omega),⟨q4v (Vs ho h1).1 ho.2.2.2.2.2.1,fun x3=>⟨fun h4=>⟨fun h5=>have h5:o.f < o.m:=(by simpa using h5)
⟨lg rfl (by have:=N7 ho h1;omega) (by have:=N7 ho h1;omega),⟨q4v (Vs ho h1).2 ho.2.2.2.2.2.2.2.2.2.1,fun x6=>⟨fun h7=>⟨fun h8=>have h8:x3.1 < x6.1:=(by simpa using h8)
(by have e1:=x3.2 (of_decide_eq_true h4);have e2:=x6.2 (of_decide_eq_true h7);rw [qp0 h1 h2 (Td h4) h5 (Td h7),Xp (Td h4),Xp (Td h7)];exact congrArg (fun x=>Value.tuple #[.int .i64 x,.int .i64 0]) (by omega)),
 fun h8=>have h8:¬ x3.1 < x6.1:=(by simpa using h8)
(by have e1:=x3.2 (of_decide_eq_true h4);have e2:=x6.2 (of_decide_eq_true h7);rw [qp0 h1 h2 (Td h4) h5 (Td h7),Xp (Td h4),Xp (Td h7)];exact congrArg (fun x=>Value.tuple #[.int .i64 x,.int .i64 0]) (by omega))⟩,
 fun h7=>(by rw [qvl h1 h2 (Td h4) h5 (qwp h7)])⟩⟩⟩,
 fun h5=>have h5:¬ o.f < o.m:=(by simpa using h5)
(by have e1:=x3.2 (of_decide_eq_true h4);rw [qvk h1 h2 (Td h4) h5,Xp (Td h4),e1])⟩,
 fun h4=>(by rw [qvj h1 h2 (qwp h4)])⟩⟩⟩⟩,
 fun h1=>(by rw [qvh h1])⟩)
theorem q3u (c:Ce)  (hc:c.fine) (w:World):Calls Tryz.prog 60 #[.agg (cell.cc c)] w fun e w'=>e = .returned (.bool (cell.right c))∧Below w.heap.size w w' :=
 uw (fn:=Tryz.f60) (r:=.bool (cell.right c)) (t:=let k0:Value:=.tuple #[.int .i64 (su c.s c.p),.bool (Qe c.s c.p)]; .c (.tuple #[.int .i64 (mg c.p c.b),.bool (yu c.p c.b)]) (.s (.c k0 (.s (.k (.k (.k (.k (.s (.k (.s (.k (.s .z .z)) (.k .z))) (.k (.k .z))))))) (.k (.k (.k (.k (.k (.k .z)))))))) (.c k0 (.s (.k (.k (.k (.k (.k .z))))) (.k (.k (.k (.k (.k .z))))))))) (X :=
 let k0:=(.bool false:Value) = .bool (cell.right c);let k1:=Qe c.s c.p;let k2:Value:=.tuple #[.int .i64 (su c.s c.p),.bool k1];let k3:=yu c.p c.b; ∀ g0:Nat,iq Tryz.prog w [] 58 #[.int .i64 c.p,.int .i64 c.b] (.tuple #[.int .i64 (mg c.p c.b),.bool k3])∧(k3=true→iq Tryz.prog w [] 87 #[.int .i64 c.s,.int .i64 c.p] k2∧(k1=true→((decide (c.b ≥ 0))=true→((decide (c.s ≥ 0))=true→((decide (c.n ≥ 0))=true→((.bool true:Value) = .bool (cell.right c)))∧((decide (c.n ≥ 0))=false→k0))∧((decide (c.s ≥ 0))=false→k0))∧((decide (c.b ≥ 0))=false→k0))∧(k1=false→k0))∧(k3=false→iq Tryz.prog w [] 87 #[.int .i64 c.s,.int .i64 c.p] k2∧(k1=true→k0)∧(k1=false→k0))) Tryz.func60 (by kernel_rfl)
 (fun g0=>⟨Tf hc.1 hc.2.1,⟨fun h1=>⟨q4u hc.2.2.1 hc.1,⟨fun h2=>⟨fun h3=>have h3:¬ c.b < 0:=(by simpa using h3)
⟨fun h4=>have h4:¬ c.s < 0:=(by simpa using h4)
⟨fun h5=>have h5:¬ c.n < 0:=(by simpa using h5)
(q9f (by have:=q3r h1;have:=q3s h2;unfold jq at *;unfold cell.aj;omega)),
 fun h5=>have h5:c.n < 0:=(by simpa using h5)
(qnc (fun h=>by unfold cell.aj at h;omega))⟩,
 fun h4=>have h4:c.s < 0:=(by simpa using h4)
(qnc (fun h=>by unfold cell.aj at h;omega))⟩,
 fun h3=>have h3:c.b < 0:=(by simpa using h3)
(qnc (fun h=>by unfold cell.aj at h;omega))⟩,
 fun h2=>(qnc (fun h=>by have:=q7a h2;unfold cell.aj at h;unfold jq at this;omega))⟩⟩,
 fun h1=>⟨q4u hc.2.2.1 hc.1,⟨fun h6=>(qnc (fun h=>by have:=qwo h1;unfold cell.aj at h;unfold jq at this;omega)),
 fun h6=>(qnc (fun h=>by have:=qwo h1;unfold cell.aj at h;unfold jq at this;omega))⟩⟩⟩⟩)
theorem q3v (l:Ex)  (w:World):Calls Tryz.prog 24 #[.agg (cell.xc l)] w fun e w'=>e = .returned (.bool (limit.right l))∧Below w.heap.size w w' :=
 uw (fn:=Tryz.f24) (r:=.bool (limit.right l)) (t:=.s (.k (.s (.k (.s .z .z)) (.k .z))) (.k (.k .z))) (X :=
 let k0:=(.bool false:Value) = .bool (limit.right l); ∀ g0:Nat,((decide (l.l ≥ 0))=true→((decide (l.s ≥ 0))=true→((decide (l.n ≥ 0))=true→((.bool true:Value) = .bool (limit.right l)))∧((decide (l.n ≥ 0))=false→k0))∧((decide (l.s ≥ 0))=false→k0))∧((decide (l.l ≥ 0))=false→k0)) Tryz.func24 (by kernel_rfl)
 (fun g0=>⟨fun h1=>have h1:¬ l.l < 0:=(by simpa using h1)
⟨fun h2=>have h2:¬ l.s < 0:=(by simpa using h2)
⟨fun h3=>have h3:¬ l.n < 0:=(by simpa using h3)
(vt (by omega)),
 fun h3=>have h3:l.n < 0:=(by simpa using h3)
(vf (by omega))⟩,
 fun h2=>have h2:l.s < 0:=(by simpa using h2)
(vf (by omega))⟩,
 fun h1=>have h1:l.l < 0:=(by simpa using h1)
(vf (by omega))⟩)
theorem q3w {o:Or} (hf:o.fine):iq Tryz.prog w0 D 23 #[.agg (order.oc o)] (.bool (order.right o)):=gives (qoj o hf)
theorem qwq {o:Or} (hf:o.fine):iq Tryz.prog w0 D 57 #[.agg (order.oc o)] (.tuple #[.int .i64 (worth o).1,.int .i64 (worth o).2]):=gives (q7b o hf)
theorem X4 {o:Or} (hf:o.fine):iq Tryz.prog w0 D 59 #[.agg (order.oc o)] (.int .i64 (open_ o)):=gives (q9g o hf)
theorem qua {c:Ce} (hf:c.fine):iq Tryz.prog w0 D 60 #[.agg (cell.cc c)] (.bool (cell.right c)):=gives (q3u c hf)
theorem q3x {l:Ex} : iq Tryz.prog w0 D 24 #[.agg (cell.xc l)] (.bool (limit.right l)):=gives (q3v l)
theorem qwr {A:Option Addr} {n c:Nat} {xs:List Ce} (h:∀ w,Below w0.heap.size w0 w→All D w→ql gu 4 w (Lt w.heap.size) A xs) (hn:xs.length=n) (hm:n≤140737488355328):iq Tryz.prog w0 D 61 #[.slice A n c] (.tuple #[.int .i64 (limit.whole xs).1,.bool (decide ((limit.whole xs).2=0))]) :=
 fun w hw ha=>(limit.q05 A n c w.heap.size xs w (h w hw ha) hn hm rfl rfl).mono (by rintro e w' ⟨rfl,rfl⟩;exact ⟨rfl,Below.refl _ _⟩)
end Go.Proofs.YtbbjlfbemibfcaaGreat.book
end
section
namespace Go.Proofs.YtbbjlfbemibfcaaGreat.book
open Go.RowKit Go.Proofs.YtbbjlfbemibfcaaGreat
open Go.Proofs.YtbbjlfbemibfcaaGreat.order (Or open_ worth)
open Go.Proofs.YtbbjlfbemibfcaaGreat.cell (Ce Ex)
open Go.Proofs.YtbbjlfbemibfcaaGreat.rec (Rc)
set_option maxRecDepth 20000
open Go.Proofs.YtbbjlfbemibfcaaGreat.order (oz)
def X5 (s:St):Prop:=(1≤s.a∧s.a≤8∧1≤s.y∧s.y≤8)∧(s.cs.length:Int)=s.a * s.y∧∀ o ∈ s.os,0≤o.a∧o.a < s.a∧0≤o.y∧o.y < s.y
theorem Zb {s:St} (hI:X5 s) {j:Nat} (hj:(j:Int) < s.a):(j+1) * s.y.toNat≤s.cs.length∧(j:Int) * s.y=((j * s.y.toNat:Nat):Int)∧((j+1:Nat):Int) * s.y=(((j+1) * s.y.toNat:Nat):Int)∧(j+1) * s.y.toNat≤64∧j * s.y.toNat≤(j+1) * s.y.toNat∧(j+1) * s.y.toNat - j * s.y.toNat=s.y.toNat :=
 Vp (s:={ s with os:=[] }) ⟨hI.1,hI.2.1,fun o ho=>by cases ho⟩ hj
theorem qnd {s:St} (hI:X5 s) {k:Nat} (hk:k < s.os.length):0≤(s.os.getD k oz).a * s.y∧(s.os.getD k oz).a * s.y≤64∧0≤(s.os.getD k oz).a * s.y+(s.os.getD k oz).y∧(s.os.getD k oz).a * s.y+(s.os.getD k oz).y≤72:=by
 obtain ⟨h1,h3,h4,h5⟩:=hI.2.2 _ (l7 (z:=oz) hk)
 have h2:=hI.1
 have:=vg (a:=(s.os.getD k oz).a) (y:=s.y) (A:=8) (Y:=8) (by omega) (by omega) (by omega) (by omega)
 omega
theorem q3y {l:List Ce} {c:Ce} : l.length+1=(l++[c]).length:=by simp
theorem q3z {l:List Ce} {c:Ce} (h:∀ c ∈ l,c.fine∧cell.aj c) (hc:c.fine∧cell.aj c):∀ x ∈ l++[c],x.fine∧cell.aj x:=fun x hx=>by
 rcases List.mem_append.1 hx with hx | hx
 ·exact h x hx
 ·rw [List.mem_singleton.1 hx];exact hc
theorem qub:jq 0:=by unfold jq;omega
set_option maxHeartbeats 4000000 in
theorem q7c (v:Sv) (s:St)  (w:World) (h:lu w (Lt w.heap.size) v s) (hI:X5 s):Calls Tryz.prog 25 #[.agg (bg v s)] w fun e w' => ∃ x:(Option Addr × Nat) × List Ce × Bool,e = .returned (.tuple #[if x.2.2=true then .slice x.1.1 x.2.1.length x.1.2 else .slice none 0 0,.bool x.2.2])∧Below w.heap.size w w'∧xq (fun _=>False) w.heap.size (if x.2.2=true then [ah gu 4 60 x.1.1 x.2.1.length x.1.2 x.2.1] else []) w' :=
 have hlen:=h.len
 have hcs:s.cs.length≤64:=qsq (s:={ s with os:=[] }) ⟨hI.1,hI.2.1,fun o ho=>by cases ho⟩
 have hia:=hI.1
 Le (fn:=Tryz.f25) (r:=fun (x:(Option Addr × Nat) × List Ce × Bool)=>.tuple #[if x.2.2=true then .slice x.1.1 x.2.1.length x.1.2 else .slice none 0 0,.bool x.2.2]) (fs:=fun (x:(Option Addr × Nat) × List Ce × Bool)=>if x.2.2=true then [ah gu 4 60 x.1.1 x.2.1.length x.1.2 x.2.1] else []) (t:=.l (Option Addr × Nat × List Ce) (fun x=>[(1,undef,some (0,0)),(4,.slice x.1 x.2.2.length x.2.1,none),(5,.int .i64 (x.2.2.length:Int),none)]) (fun x=>[]) [0] [oC none 0 0 ([]:List Ce)] (fun x=>[oC x.1 x.2.2.length x.2.1 x.2.2]) (fun x=>x.2.2.length≤s.cs.length∧∀ c ∈ x.2.2,c.fine∧cell.aj c) (fun x=>s.cs.length - x.2.2.length) ((none,0,[]):Option Addr × Nat × List Ce) (fun y1=>let k0:=s.cs.getD y1.2.2.length cz;let k1:List Fact:=[oC y1.1 y1.2.2.length y1.2.1 y1.2.2]; .s (.p (au v.A2) (ay v.A2+y1.2.2.length * 4) (cell.cc k0) (.l (Nat × Ce) (fun x=>[(1,undef,some (0,0)),(4,.slice y1.1 y1.2.2.length y1.2.1,none),(5,.int .i64 (y1.2.2.length:Int),none),(6,undef,some (2,0)),(7,.int .i64 (x.1:Int),none)]) (fun x=>[(2,(cell.cc x.2))]) [0,2] [] (fun x=>k1) (fun x=>x.1≤s.os.length∧x.2.fine) (fun x=>s.os.length - x.1) ((0,(⟨k0.p,0,0,0⟩:Ce)):Nat × Ce) (fun y5=>let k2:=s.os.getD y5.1 order.oz;let k3:Value:=.tuple #[.int .i64 (mg y5.2.b (open_ k2)),.bool (yu y5.2.b (open_ k2))];let k4:Value:=.tuple #[.int .i64 (mg y5.2.s (open_ k2)),.bool (yu y5.2.s (open_ k2))];let k5:Value:=.int .i64 ((y5.1+1:Nat):Int);let k6:Value:=.int .i64 (open_ k2);let k7:=y1.2.2++[y5.2];let k8:=(worth k2).1; .s (.p (au v.A1) (ay v.A1+y5.1 * 12) (order.oc k2) (.e (.int .i64 (k2.a * s.y)) (.e (.int .i64 ((k2.a * s.y)+k2.y)) (.s (.e k5 .z) (.c (.tuple #[.int .i64 k8,.int .i64 ((worth k2).2)]) (.c (.tuple #[.int .i64 (mg y5.2.n k8),.bool (yu y5.2.n k8)]) (.s (.o [] (.s (.o [] (.c k6 (.c k3 (.s (.s (.k (.k .z)) (.k (.k (.k (.k (.e k5 .z)))))) (.s (.k (.k .z)) (.k (.k (.k (.k .z))))))))) (.o [] (.c k6 (.c k4 (.s (.s (.k (.k .z)) (.k (.k (.k (.k (.e k5 .z)))))) (.s (.k (.k .z)) (.k (.k (.k (.k .z))))))))))) (.o [] (.s (.o [] (.c k6 (.c k3 (.s (.s (.k (.k .z)) (.k (.k (.k .z)))) (.s (.k (.k .z)) (.k (.k (.k .z)))))))) (.o [] (.c k6 (.c k4 (.s (.s (.k (.k .z)) (.k (.k (.k .z)))) (.s (.k (.k .z)) (.k (.k (.k .z))))))))))))))))) (.cs (cell.right y5.2) (.w (Nat) none (fun x=>.slice (some ⟨x,0,none⟩) 1 1) (fun x=>[dw x (cell.cc y5.2) 60]) (fun Gu=>.w (Option Addr × Nat) (some 1) (fun x=>.slice x.1 (k7.length) x.2) (fun x=>[oC x.1 (k7.length) x.2 k7]) (fun x27=>.e (.int .i64 ((y1.2.2.length+1:Nat):Int)) .z))) .z)))) (.l (Nat) (fun x=>[(1,undef,some (0,0)),(4,.slice y1.1 y1.2.2.length y1.2.1,none),(16,.int .i64 (x:Int),none)]) (fun x=>[]) [0] [] (fun x=>k1) (fun x=>(x:Int)≤s.a) (fun x=>s.a.toNat - x) (0:Nat) (fun y28=>let k9:=limit.whole (acc s.y y28 y1.2.2);let k10:=(y28+1:Nat); .s (.e (.int .i64 ((y28 * s.y.toNat:Nat):Int)) (.e (.int .i64 (k10:Int)) (.e (.int .i64 ((k10 * s.y.toNat:Nat):Int)) (.x (.slice (cutAt y1.1 y1.2.1 (y28 * s.y.toNat) 4) s.y.toNat (y1.2.1 - y28 * s.y.toNat)) (.c (.tuple #[.int .i64 (k9.1),.bool (decide (k9.2=0))]) (.s (.k (.e (.int .i64 (k10:Int)) .z)) (.k .z))))))) .z)))) (X :=
 let k0:=(.tuple #[.slice none 0 0,.bool false]:Value);let k1:=((none,0,[]):Option Addr × Nat × List Ce);let k2:=Option Addr × Nat; ∀ g0:Nat,let k3:Option Addr:=some ⟨g0,0,none⟩;let k4:=([some ⟨g0,0,(bg v s),.own 27⟩]:List (Option jv));xg w [] [oC none 0 0 ([]:List Ce)]∧(k1.2.2.length≤s.cs.length∧∀ c ∈ k1.2.2,c.fine∧cell.aj c)∧(([.pointer k3,.slice none 0 0,.int .i64 0]:List Value)=[.pointer k3,.slice (k1.1) (k1.2.2.length) (k1.2.1),.int .i64 (k1.2.2.length:Int)]∧k4=[some ⟨g0,0,(bg v s),.own 27⟩]∧iw w [oC none 0 0 ([]:List Ce)] [oC (k1.1) (k1.2.2.length) (k1.2.1) (k1.2.2)])∧true=true∧∀ (y1:Option Addr × Nat × List Ce),let k5:List Fact:=[oC y1.1 y1.2.2.length y1.2.1 y1.2.2];let k6:=(y1.2.2.length:Int);let k8:=s.cs.getD y1.2.2.length cz;let k7:=((0,(⟨k8.p,0,0,0⟩:Ce)):Nat × Ce);let k9:=decide (k6 < (s.cs.length:Int));let k10:=((y1.2.2.length+1:Nat):Int);(y1.2.2.length≤s.cs.length∧∀ c ∈ y1.2.2,c.fine∧cell.aj c)→∀ τ3:Nat→Value,(k9=true→jd Tryz.prog w k5 (Instr.indexAt 23 (.slice v.A2 s.cs.length v.c2) (.int .i64 k6)) (.pointer (some ⟨au v.A2,ay v.A2+y1.2.2.length * 4,none⟩))∧o7 w [] (au v.A2) (ay v.A2+y1.2.2.length * 4) (cell.cc k8)∧∀ g2:Nat,let k11:Option Addr:=some ⟨g2,0,none⟩;xg w k5 []∧(k7.1≤s.os.length∧k7.2.fine)∧(([.pointer k3,.slice y1.1 y1.2.2.length y1.2.1,.int .i64 k6,.pointer k11,.int .i64 0]:List Value)=[.pointer k3,.slice y1.1 y1.2.2.length y1.2.1,.int .i64 k6,.pointer k11,.int .i64 (k7.1:Int)]∧([some ⟨g2,0,#[.int .i64 (k8.p),.int .i64 0,.int .i64 0,.int .i64 0],.own 60⟩,some ⟨g0,0,(bg v s),.own 27⟩]:List (Option jv))=[some ⟨g2,0,(cell.cc (k7.2)),.own 60⟩,some ⟨g0,0,(bg v s),.own 27⟩]∧iw w k5 k5)∧true=true∧∀ (y5:Nat × Ce),let k12:=s.os.getD y5.1 order.oz;let k13 := !decide (((worth k12).2)=0);let k20:=((y5.1+1:Nat):Int);let k14:=([.pointer k3,.slice y1.1 y1.2.2.length y1.2.1,.int .i64 k6,.pointer k11,.int .i64 k20]:List Value);let k15:=yu y5.2.b (open_ k12);let k16:=yu y5.2.s (open_ k12);let k17:=(.int .i64 (IntKind.i64.wrap ((y5.1:Int)+1)):Value);let k18:=(worth k12).1;let k19:=y1.2.2++[y5.2];let k21:Array Value:=#[.agg (order.oc k12)];let k22:=(k12.a * s.y)+k12.y;let k23:=cell.cc y5.2;let k24:Value:=.int .i64 (open_ k12);let k25:=decide (k12.d=1);let k26:Value:=.tuple #[.int .i64 (mg y5.2.b (open_ k12)),.bool k15];let k27:Value:=.tuple #[.int .i64 (mg y5.2.s (open_ k12)),.bool k16];let k28:=decide ((y5.1:Int) < (s.os.length:Int));let k29:=mg y5.2.n k18;let k30:=yu y5.2.n k18;let k31:=cell.right y5.2;let k32:Array Value:=#[.int .i64 y5.2.b,.int .i64 (open_ k12)];let k33:Array Value:=#[.int .i64 y5.2.s,.int .i64 (open_ k12)];(y5.1≤s.os.length∧y5.2.fine)→∀ τ7:Nat→Value,(k28=true→jd Tryz.prog w k5 (Instr.indexAt 22 (.slice v.A1 s.os.length v.c1) (.int .i64 (y5.1:Int))) (.pointer (some ⟨au v.A1,ay v.A1+y5.1 * 12,none⟩))∧o7 w [] (au v.A1) (ay v.A1+y5.1 * 12) (order.oc k12)∧∀ g4:Nat,(.int .i64 (IntKind.i64.wrap (k12.a * s.y)):Value) = .int .i64 (k12.a * s.y)∧(.int .i64 (IntKind.i64.wrap k22):Value) = .int .i64 k22∧((!decide (k22=k6))=true→k17 = .int .i64 k20∧∃ x' : Nat × Ce,(x'.1≤s.os.length∧x'.2.fine)∧(s.os.length - x'.1 < s.os.length - y5.1)∧(k14=[.pointer k3,.slice y1.1 y1.2.2.length y1.2.1,.int .i64 k6,.pointer k11,.int .i64 (x'.1:Int)]∧([some ⟨g2,0,k23,.own 60⟩,some ⟨g0,0,(bg v s),.own 27⟩]:List (Option jv))=[some ⟨g2,0,(cell.cc x'.2),.own 60⟩,some ⟨g0,0,(bg v s),.own 27⟩]∧iw w k5 k5)∧true=true)∧((!decide (k22=k6))=false→iq Tryz.prog w k5 57 k21 (.tuple #[.int .i64 k18,.int .i64 ((worth k12).2)])∧iq Tryz.prog w k5 58 #[.int .i64 y5.2.n,.int .i64 k18] (.tuple #[.int .i64 k29,.bool k30])∧(k30=true→(k25=true→iq Tryz.prog w k5 59 k21 k24∧iq Tryz.prog w k5 58 k32 k26∧(k15=true→(k13=true→∃ x:k2 × List Ce × Bool,k0 = .tuple #[if x.2.2=true then .slice x.1.1 x.2.1.length x.1.2 else .slice none 0 0,.bool x.2.2]∧iw w k5 (if x.2.2=true then [oC x.1.1 x.2.1.length x.1.2 x.2.1] else []))∧(k13=false→k17 = .int .i64 k20∧∃ x' : Nat × Ce,(x'.1≤s.os.length∧x'.2.fine)∧(s.os.length - x'.1 < s.os.length - y5.1)∧(k14=[.pointer k3,.slice y1.1 y1.2.2.length y1.2.1,.int .i64 k6,.pointer k11,.int .i64 (x'.1:Int)]∧([some ⟨g2,0,#[.int .i64 y5.2.p,.int .i64 (mg y5.2.b (open_ k12)),.int .i64 y5.2.s,.int .i64 k29],.own 60⟩,some ⟨g0,0,(bg v s),.own 27⟩]:List (Option jv))=[some ⟨g2,0,(cell.cc x'.2),.own 60⟩,some ⟨g0,0,(bg v s),.own 27⟩]∧iw w k5 k5)∧true=true))∧(k15=false→(k13=true→∃ x:k2 × List Ce × Bool,k0 = .tuple #[if x.2.2=true then .slice x.1.1 x.2.1.length x.1.2 else .slice none 0 0,.bool x.2.2]∧iw w k5 (if x.2.2=true then [oC x.1.1 x.2.1.length x.1.2 x.2.1] else []))∧(k13=false→∃ x:k2 × List Ce × Bool,k0 = .tuple #[if x.2.2=true then .slice x.1.1 x.2.1.length x.1.2 else .slice none 0 0,.bool x.2.2]∧iw w k5 (if x.2.2=true then [oC x.1.1 x.2.1.length x.1.2 x.2.1] else []))))∧(k25=false→iq Tryz.prog w k5 59 k21 k24∧iq Tryz.prog w k5 58 k33 k27∧(k16=true→(k13=true→∃ x:k2 × List Ce × Bool,k0 = .tuple #[if x.2.2=true then .slice x.1.1 x.2.1.length x.1.2 else .slice none 0 0,.bool x.2.2]∧iw w k5 (if x.2.2=true then [oC x.1.1 x.2.1.length x.1.2 x.2.1] else []))∧(k13=false→k17 = .int .i64 k20∧∃ x' : Nat × Ce,(x'.1≤s.os.length∧x'.2.fine)∧(s.os.length - x'.1 < s.os.length - y5.1)∧(k14=[.pointer k3,.slice y1.1 y1.2.2.length y1.2.1,.int .i64 k6,.pointer k11,.int .i64 (x'.1:Int)]∧([some ⟨g2,0,#[.int .i64 y5.2.p,.int .i64 y5.2.b,.int .i64 (mg y5.2.s (open_ k12)),.int .i64 k29],.own 60⟩,some ⟨g0,0,(bg v s),.own 27⟩]:List (Option jv))=[some ⟨g2,0,(cell.cc x'.2),.own 60⟩,some ⟨g0,0,(bg v s),.own 27⟩]∧iw w k5 k5)∧true=true))∧(k16=false→(k13=true→∃ x:k2 × List Ce × Bool,k0 = .tuple #[if x.2.2=true then .slice x.1.1 x.2.1.length x.1.2 else .slice none 0 0,.bool x.2.2]∧iw w k5 (if x.2.2=true then [oC x.1.1 x.2.1.length x.1.2 x.2.1] else []))∧(k13=false→∃ x:k2 × List Ce × Bool,k0 = .tuple #[if x.2.2=true then .slice x.1.1 x.2.1.length x.1.2 else .slice none 0 0,.bool x.2.2]∧iw w k5 (if x.2.2=true then [oC x.1.1 x.2.1.length x.1.2 x.2.1] else [])))))∧(k30=false→(k25=true→iq Tryz.prog w k5 59 k21 k24∧iq Tryz.prog w k5 58 k32 k26∧(k15=true→(k13=true→∃ x:k2 × List Ce × Bool,k0 = .tuple #[if x.2.2=true then .slice x.1.1 x.2.1.length x.1.2 else .slice none 0 0,.bool x.2.2]∧iw w k5 (if x.2.2=true then [oC x.1.1 x.2.1.length x.1.2 x.2.1] else []))∧(k13=false→∃ x:k2 × List Ce × Bool,k0 = .tuple #[if x.2.2=true then .slice x.1.1 x.2.1.length x.1.2 else .slice none 0 0,.bool x.2.2]∧iw w k5 (if x.2.2=true then [oC x.1.1 x.2.1.length x.1.2 x.2.1] else [])))∧(k15=false→(k13=true→∃ x:k2 × List Ce × Bool,k0 = .tuple #[if x.2.2=true then .slice x.1.1 x.2.1.length x.1.2 else .slice none 0 0,.bool x.2.2]∧iw w k5 (if x.2.2=true then [oC x.1.1 x.2.1.length x.1.2 x.2.1] else []))∧(k13=false→∃ x:k2 × List Ce × Bool,k0 = .tuple #[if x.2.2=true then .slice x.1.1 x.2.1.length x.1.2 else .slice none 0 0,.bool x.2.2]∧iw w k5 (if x.2.2=true then [oC x.1.1 x.2.1.length x.1.2 x.2.1] else []))))∧(k25=false→iq Tryz.prog w k5 59 k21 k24∧iq Tryz.prog w k5 58 k33 k27∧(k16=true→(k13=true→∃ x:k2 × List Ce × Bool,k0 = .tuple #[if x.2.2=true then .slice x.1.1 x.2.1.length x.1.2 else .slice none 0 0,.bool x.2.2]∧iw w k5 (if x.2.2=true then [oC x.1.1 x.2.1.length x.1.2 x.2.1] else []))∧(k13=false→∃ x:k2 × List Ce × Bool,k0 = .tuple #[if x.2.2=true then .slice x.1.1 x.2.1.length x.1.2 else .slice none 0 0,.bool x.2.2]∧iw w k5 (if x.2.2=true then [oC x.1.1 x.2.1.length x.1.2 x.2.1] else [])))∧(k16=false→(k13=true→∃ x:k2 × List Ce × Bool,k0 = .tuple #[if x.2.2=true then .slice x.1.1 x.2.1.length x.1.2 else .slice none 0 0,.bool x.2.2]∧iw w k5 (if x.2.2=true then [oC x.1.1 x.2.1.length x.1.2 x.2.1] else []))∧(k13=false→∃ x:k2 × List Ce × Bool,k0 = .tuple #[if x.2.2=true then .slice x.1.1 x.2.1.length x.1.2 else .slice none 0 0,.bool x.2.2]∧iw w k5 (if x.2.2=true then [oC x.1.1 x.2.1.length x.1.2 x.2.1] else [])))))))∧(k28=false→iq Tryz.prog w k5 60 #[.agg k23] (.bool k31)∧(k31=true→jw Tryz.prog w k5 (Instr.buildSlice 23 1 #[(0,.agg k23)]) (fun _=>False) (Nat) (fun x=>.slice (some ⟨x,0,none⟩) 1 1) (fun x=>[dw x k23 60])∧∀ Gu:Nat,jw Tryz.prog w [dw Gu k23 60,oC y1.1 y1.2.2.length y1.2.1 y1.2.2] (Builtin.append_ #[23,23] 23 #[.slice y1.1 y1.2.2.length y1.2.1,.slice (some ⟨Gu,0,none⟩) 1 1]) ((oC y1.1 y1.2.2.length y1.2.1 y1.2.2).S) k2 (fun x=>.slice x.1 (k19.length) x.2) (fun x=>[oC x.1 (k19.length) x.2 k19])∧∀ x27:Option Addr × Nat,(.int .i64 (IntKind.i64.wrap (k6+1)):Value) = .int .i64 k10∧∃ x' : Option Addr × Nat × List Ce,(x'.2.2.length≤s.cs.length∧∀ c ∈ x'.2.2,c.fine∧cell.aj c)∧(s.cs.length - x'.2.2.length < s.cs.length - y1.2.2.length)∧(([.pointer k3,.slice x27.1 (k19.length) x27.2,.int .i64 k10]:List Value)=[.pointer k3,.slice x'.1 x'.2.2.length x'.2.1,.int .i64 (x'.2.2.length:Int)]∧k4=[some ⟨g0,0,(bg v s),.own 27⟩]∧iw w [oC x27.1 (k19.length) x27.2 k19,dw Gu k23 60] [oC x'.1 x'.2.2.length x'.2.1 x'.2.2])∧true=true)∧(k31=false→∃ x:k2 × List Ce × Bool,k0 = .tuple #[if x.2.2=true then .slice x.1.1 x.2.1.length x.1.2 else .slice none 0 0,.bool x.2.2]∧iw w k5 (if x.2.2=true then [oC x.1.1 x.2.1.length x.1.2 x.2.1] else []))))∧(k9=false→xg w k5 []∧(((0:Nat):Int)≤s.a)∧(([.pointer k3,.slice y1.1 y1.2.2.length y1.2.1,.int .i64 0]:List Value)=[.pointer k3,.slice y1.1 y1.2.2.length y1.2.1,.int .i64 ((0:Nat):Int)]∧k4=[some ⟨g0,0,(bg v s),.own 27⟩]∧iw w k5 k5)∧true=true∧∀ (y28:Nat),let k38:=limit.whole (acc s.y y28 y1.2.2);let k34:=decide (k38.2=0);let Ad:=(y28+1:Nat);let Aj:=(.int .i64 (IntKind.i64.wrap ((y28:Int)+1)):Value);let k37:=cutAt y1.1 y1.2.1 (y28 * s.y.toNat) 4;let k39:=((y28 * s.y.toNat:Nat):Int);let l9:=((Ad * s.y.toNat:Nat):Int);let zx:=decide ((y28:Int) < s.a);let uz:=y1.2.1 - y28 * s.y.toNat;((y28:Int)≤s.a)→∀ τ30:Nat→Value,(zx=true→(.int .i64 (IntKind.i64.wrap ((y28:Int) * s.y)):Value) = .int .i64 k39∧Aj = .int .i64 (Ad:Int)∧(.int .i64 (IntKind.i64.wrap ((Ad:Int) * s.y)):Value) = .int .i64 l9∧jd Tryz.prog w k5 (Instr.sliceAt 23 (.slice y1.1 y1.2.2.length y1.2.1) (some (.int .i64 k39)) (some (.int .i64 l9)) none) (.slice k37 s.y.toNat uz)∧iq Tryz.prog w k5 61 #[.slice k37 s.y.toNat uz] (.tuple #[.int .i64 (k38.1),.bool k34])∧(k34=true→Aj = .int .i64 (Ad:Int)∧∃ x' : Nat,((x' : Int)≤s.a)∧(s.a.toNat - x' < s.a.toNat - y28)∧(([.pointer k3,.slice y1.1 y1.2.2.length y1.2.1,.int .i64 (Ad:Int)]:List Value)=[.pointer k3,.slice y1.1 y1.2.2.length y1.2.1,.int .i64 (x' : Int)]∧k4=[some ⟨g0,0,(bg v s),.own 27⟩]∧iw w k5 k5)∧true=true)∧(k34=false→∃ x:k2 × List Ce × Bool,k0 = .tuple #[if x.2.2=true then .slice x.1.1 x.2.1.length x.1.2 else .slice none 0 0,.bool x.2.2]∧iw w k5 (if x.2.2=true then [oC x.1.1 x.2.1.length x.1.2 x.2.1] else [])))∧(zx=false→∃ x:k2 × List Ce × Bool,(.tuple #[.slice y1.1 y1.2.2.length y1.2.1,.bool true]:Value) = .tuple #[if x.2.2=true then .slice x.1.1 x.2.1.length x.1.2 else .slice none 0 0,.bool x.2.2]∧iw w k5 (if x.2.2=true then [oC x.1.1 x.2.1.length x.1.2 x.2.1] else [])))) Tryz.func25 (by kernel_rfl)
 (fun g0=>⟨(Rh zn 4 _),⟨Nat.zero_le _,by simp⟩,⟨rfl,rfl,(jm (.cons_cons _ (List.nil_sublist _)))⟩,rfl,fun y1 I2 τ3=>⟨fun h4=>have h4:(y1.2.2.length:Int) < (s.cs.length:Int):=(by simpa using h4)
⟨(yw Tryz.underlying23 yg qa2 (Nat.le_refl _) h.c rfl (by omega)),(qa0 qa2 (Nat.le_refl _) h.c (ou (by omega))),fun g2=>⟨(fun w _ _=>zh),⟨Nat.zero_le _,(Jg h.c _ (l7 (by omega))).1,qub,qub,qub⟩,⟨rfl,rfl,(jm (.cons_cons _ (List.nil_sublist _)))⟩,rfl,fun y5 I6 τ7=>⟨fun h8=>have h8:(y5.1:Int) < (s.os.length:Int):=(by simpa using h8)
⟨(yw Tryz.underlying22 qbd Dv (Nat.le_refl _) h.o rfl (by omega)),(qa0 Dv (Nat.le_refl _) h.o (ou (by omega))),fun g4=>⟨lg rfl (by have:=qnd hI (k:=y5.1) (by omega);omega) (by have:=qnd hI (k:=y5.1) (by omega);omega),⟨lg rfl (by have:=qnd hI (k:=y5.1) (by omega);omega) (by have:=qnd hI (k:=y5.1) (by omega);omega),⟨fun h9=>have h9:¬ (((s.os.getD y5.1 order.oz).a * s.y)+(s.os.getD y5.1 order.oz).y)=(y1.2.2.length:Int):=(by simpa using h9)
⟨lg (by omega) (by omega) (by omega),⟨((y5.1+1,y5.2):Nat × Ce),⟨by dsimp only;omega,I6.2⟩,(by dsimp only;omega),⟨rfl,rfl,(jm (.cons_cons _ (List.nil_sublist _)))⟩,rfl⟩⟩,
 fun h9=>have h9:(((s.os.getD y5.1 order.oz).a * s.y)+(s.os.getD y5.1 order.oz).y)=(y1.2.2.length:Int):=(by simpa using h9)
⟨qwq (Bh h.o _ (l7 (by omega))),⟨Tf (I6.2.2.2.2) (cell.Um (s.os.getD y5.1 order.oz)),⟨fun h10=>⟨fun h11=>have h11:(s.os.getD y5.1 order.oz).d=1:=(by simpa using h11)
⟨X4 (Bh h.o _ (l7 (by omega))),⟨Tf (I6.2.2.1) (cell.Nb (Bh h.o _ (l7 (by omega)))),⟨fun h12=>⟨fun h13=>have h13:¬ ((worth (s.os.getD y5.1 order.oz)).2)=0:=(by simpa using h13)
⟨((none,0),[],false),rfl,jm (List.nil_sublist _)⟩,
 fun h13=>have h13:((worth (s.os.getD y5.1 order.oz)).2)=0:=(by simpa using h13)
⟨lg (by omega) (by omega) (by omega),⟨((y5.1+1,⟨y5.2.p,(mg y5.2.b (open_ (s.os.getD y5.1 order.oz))),y5.2.s,(mg y5.2.n ((worth (s.os.getD y5.1 order.oz)).1))⟩):Nat × Ce),⟨by dsimp only;omega,I6.2.1,Lj _ _,I6.2.2.2.1,Lj _ _⟩,(by dsimp only;omega),⟨rfl,rfl,(jm (.cons_cons _ (List.nil_sublist _)))⟩,rfl⟩⟩⟩,
 fun h12=>⟨fun uy=>have uy:¬ ((worth (s.os.getD y5.1 order.oz)).2)=0:=(by simpa using uy)
⟨((none,0),[],false),rfl,jm (List.nil_sublist _)⟩,
 fun uy=>have uy:((worth (s.os.getD y5.1 order.oz)).2)=0:=(by simpa using uy)
⟨((none,0),[],false),rfl,jm (List.nil_sublist _)⟩⟩⟩⟩⟩,
 fun h11=>have h11:¬ (s.os.getD y5.1 order.oz).d=1:=(by simpa using h11)
⟨X4 (Bh h.o _ (l7 (by omega))),⟨Tf (I6.2.2.2.1) (cell.Nb (Bh h.o _ (l7 (by omega)))),⟨fun h15=>⟨fun h16=>have h16:¬ ((worth (s.os.getD y5.1 order.oz)).2)=0:=(by simpa using h16)
⟨((none,0),[],false),rfl,jm (List.nil_sublist _)⟩,
 fun h16=>have h16:((worth (s.os.getD y5.1 order.oz)).2)=0:=(by simpa using h16)
⟨lg (by omega) (by omega) (by omega),⟨((y5.1+1,⟨y5.2.p,y5.2.b,(mg y5.2.s (open_ (s.os.getD y5.1 order.oz))),(mg y5.2.n ((worth (s.os.getD y5.1 order.oz)).1))⟩):Nat × Ce),⟨by dsimp only;omega,I6.2.1,I6.2.2.1,Lj _ _,Lj _ _⟩,(by dsimp only;omega),⟨rfl,rfl,(jm (.cons_cons _ (List.nil_sublist _)))⟩,rfl⟩⟩⟩,
 fun h15=>⟨fun h17=>have h17:¬ ((worth (s.os.getD y5.1 order.oz)).2)=0:=(by simpa using h17)
⟨((none,0),[],false),rfl,jm (List.nil_sublist _)⟩,
 fun h17=>have h17:((worth (s.os.getD y5.1 order.oz)).2)=0:=(by simpa using h17)
⟨((none,0),[],false),rfl,jm (List.nil_sublist _)⟩⟩⟩⟩⟩⟩,
 fun h10=>⟨fun h18=>have h18:(s.os.getD y5.1 order.oz).d=1:=(by simpa using h18)
⟨X4 (Bh h.o _ (l7 (by omega))),⟨Tf (I6.2.2.1) (cell.Nb (Bh h.o _ (l7 (by omega)))),⟨fun h19=>⟨fun h20=>have h20:¬ ((worth (s.os.getD y5.1 order.oz)).2)=0:=(by simpa using h20)
⟨((none,0),[],false),rfl,jm (List.nil_sublist _)⟩,
 fun h20=>have h20:((worth (s.os.getD y5.1 order.oz)).2)=0:=(by simpa using h20)
⟨((none,0),[],false),rfl,jm (List.nil_sublist _)⟩⟩,
 fun h19=>⟨fun h21=>have h21:¬ ((worth (s.os.getD y5.1 order.oz)).2)=0:=(by simpa using h21)
⟨((none,0),[],false),rfl,jm (List.nil_sublist _)⟩,
 fun h21=>have h21:((worth (s.os.getD y5.1 order.oz)).2)=0:=(by simpa using h21)
⟨((none,0),[],false),rfl,jm (List.nil_sublist _)⟩⟩⟩⟩⟩,
 fun h18=>have h18:¬ (s.os.getD y5.1 order.oz).d=1:=(by simpa using h18)
⟨X4 (Bh h.o _ (l7 (by omega))),⟨Tf (I6.2.2.2.1) (cell.Nb (Bh h.o _ (l7 (by omega)))),⟨fun h22=>⟨fun h23=>have h23:¬ ((worth (s.os.getD y5.1 order.oz)).2)=0:=(by simpa using h23)
⟨((none,0),[],false),rfl,jm (List.nil_sublist _)⟩,
 fun h23=>have h23:((worth (s.os.getD y5.1 order.oz)).2)=0:=(by simpa using h23)
⟨((none,0),[],false),rfl,jm (List.nil_sublist _)⟩⟩,
 fun h22=>⟨fun Jm=>have Jm:¬ ((worth (s.os.getD y5.1 order.oz)).2)=0:=(by simpa using Jm)
⟨((none,0),[],false),rfl,jm (List.nil_sublist _)⟩,
 fun Jm=>have Jm:((worth (s.os.getD y5.1 order.oz)).2)=0:=(by simpa using Jm)
⟨((none,0),[],false),rfl,jm (List.nil_sublist _)⟩⟩⟩⟩⟩⟩⟩⟩⟩⟩⟩⟩⟩,
 fun h8=>have h8:¬ (y5.1:Int) < (s.os.length:Int):=(by simpa using h8)
⟨qua I6.2,fun Kt=>⟨(Af (by kernel_rfl) (fun g=>by kernel_rfl)),fun Gu=>⟨(zu q3y rfl (zq zn Nv (by decide) Tryz.underlying23 yg rfl (fun _ h=>h) (ji (j:=1) rfl) (fun w _ ha=>D5 (Ah (j:=0) rfl w ha) rfl ⟨rfl,I6.2⟩) rfl (by have:=I2.1;unfold maxLen;omega) (by have:=I2.1;omega) (fun h=>h))),fun x27=>⟨lg (by omega) (by omega) (by omega),⟨((x27.1,x27.2,y1.2.2++[y5.2]):Option Addr × Nat × List Ce),⟨by dsimp only;rw [List.length_append,List.length_singleton];omega,q3z I2.2 ⟨I6.2,cell.dh.1 Kt⟩⟩,(by dsimp only;rw [List.length_append,List.length_singleton];omega),⟨(by dsimp only;rw [List.length_append,List.length_singleton]<;>rfl),rfl,(jm (.cons_cons _ (List.nil_sublist _)))⟩,rfl⟩⟩⟩⟩,
 fun Kt=>⟨((none,0),[],false),rfl,jm (List.nil_sublist _)⟩⟩⟩⟩⟩,
 fun h4=>have h4:¬ (y1.2.2.length:Int) < (s.cs.length:Int):=(by simpa using h4)
⟨(fun w _ _=>zh),(by have:=hI.1;omega),⟨rfl,rfl,(jm (.cons_cons _ (List.nil_sublist _)))⟩,rfl,fun y28 I29 τ30=>⟨fun h31=>have h31:(y28:Int) < s.a:=(by simpa using h31)
⟨lg (by have:=Zb hI (j:=y28) h31;omega) (by omega) (by have:=Zb hI (j:=y28) h31;omega),⟨lg (by omega) (by omega) (by omega),⟨lg (by have:=Zb hI (j:=y28) h31;omega) (by omega) (by have:=Zb hI (j:=y28) h31;omega),⟨(fun w hw ha=>by have hc:=(ji (j:=0) rfl w ha).cap;have hn:=(ji (j:=0) rfl w ha).len;have h7:=I2.1;have hr:=Zb hI (j:=y28) h31;have:=qjw Tryz.underlying23 yg y1.1 y1.2.2.length y1.2.1 (y28 * s.y.toNat) ((y28+1) * s.y.toNat) rfl rfl hr.2.2.2.2.1 (Nat.le_trans hr.1 (by omega)) w;rw [hr.2.2.2.2.2] at this;exact this),⟨qwr (fun w _ ha=>by have hr:=(ji (j:=0) rfl w ha).reads zn (by decide);exact qg2 hr (by have:=(ji (j:=0) rfl w ha).cap;omega)) (qgi (by have h8:=(Zb hI h31).1;have h7:=I2.1;omega)) (by have h9:=(Zb hI h31).2.2.2;omega),⟨fun h32=>⟨lg (by omega) (by omega) (by omega),⟨((y28+1):Nat),(by omega),(by omega),⟨rfl,rfl,(jm (.cons_cons _ (List.nil_sublist _)))⟩,rfl⟩⟩,
 fun h32=>⟨((none,0),[],false),rfl,jm (List.nil_sublist _)⟩⟩⟩⟩⟩⟩⟩,
 fun h31=>have h31:¬ (y28:Int) < s.a:=(by simpa using h31)
⟨((y1.1,y1.2.1),y1.2.2,true),(by rw [if_pos rfl]),(by rw [if_pos rfl];exact jm (List.Sublist.refl _))⟩⟩⟩⟩⟩)
theorem q30 {w0:World} {D:List Fact} {v:Sv} {s:St} (hs:∀ w,Below w0.heap.size w0 w→All D w→lu w (Lt w.heap.size) v s) (hI:X5 s) :
  qg Tryz.prog w0 D 25 #[.agg (bg v s)] ((Option Addr × Nat) × List Ce × Bool) (fun x=>.tuple #[if x.2.2=true then .slice x.1.1 x.2.1.length x.1.2 else .slice none 0 0,.bool x.2.2]) (fun x=>if x.2.2=true then [ah gu 4 60 x.1.1 x.2.1.length x.1.2 x.2.1] else []):=fun w hw ha=>q7c v s w (hs w hw ha) hI
end Go.Proofs.YtbbjlfbemibfcaaGreat.book
end
