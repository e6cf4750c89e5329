/-
  RecV
-/
import Derived.Test.YtcpahggkioagkaaMvf21
import Derived.Test.YtcpahggkioagkaaMvf26
import Derived.Test.YtcpahggkioagkaaMvf25
set_option linter.unusedVariables false
set_option linter.unusedSimpArgs false
namespace Go.Proofs.Ytcpahggkioagkaa.book
open Go.RowKit Go.Proofs.Ytcpahggkioagkaa
open Go.Proofs.Ytcpahggkioagkaa.rec (Rc)
set_option maxRecDepth 20000
theorem bnd_t {y l s n:Int} (h:(y = -1∧l=0∧s=0∧0≤n)∨(0≤y∧y < 8∧0≤l∧0≤s∧0≤n)):rec.mayBound y l s n=true:=by
 unfold rec.mayBound rec.mayAcc
 split<;>simp<;>omega
theorem bnd_f {y l s n:Int} (h:¬ ((y = -1∧l=0∧s=0∧0≤n)∨(0≤y∧y < 8∧0≤l∧0≤s∧0≤n))):rec.mayBound y l s n=false:=by
 unfold rec.mayBound rec.mayAcc
 split<;>simp<;>omega
theorem tll_t {t q p:Int} (h:(t=3∧1≤q∧p=0)∨(t=5∧1≤q∧1≤p)∨((t=1∨t=2∨t=4∨t=6)∧q=0∧p=0)):rec.mayTell t q p=true:=by
 unfold rec.mayTell rec.mayAsk
 repeat' split
 all_goals simp<;>omega
theorem tll_f {t q p:Int} (h:¬ ((t=3∧1≤q∧p=0)∨(t=5∧1≤q∧1≤p)∨((t=1∨t=2∨t=4∨t=6)∧q=0∧p=0))):rec.mayTell t q p=false:=by
 unfold rec.mayTell rec.mayAsk
 repeat' split
 all_goals simp<;>omega
section
variable {r:Rc}
theorem may_1 (h:r.k=1):rec.may r=(rec.mayOrder r.o && rec.mayAcc r.a && rec.mayAcc r.y && decide (r.d=1∨r.d=2) && rec.mayAsk r.q r.p):=by unfold rec.may;simp [h]
theorem may_2 (h:r.k=2):rec.may r=(rec.mayOrder r.o && rec.mayAsk r.q r.p):=by unfold rec.may;simp [h]
theorem may_3 (h:r.k=3):rec.may r=rec.mayOrder r.o:=by unfold rec.may;simp [h]
theorem may_4 (h:r.k=4):rec.may r=(rec.mayAcc r.a && rec.mayBound r.y r.l r.s r.n):=by unfold rec.may;simp [h]
theorem may_5 (h:r.k=5):rec.may r=true:=by unfold rec.may;simp [h]
theorem may_6 (h:r.k=6):rec.may r=(decide (1≤r.z∧r.z≤1000000000) && rec.mayOrder r.o && rec.mayTell r.t r.q r.p):=by unfold rec.may;simp [h]
theorem may_0 (h1:¬ r.k=1) (h2:¬ r.k=2) (h3:¬ r.k=3) (h4:¬ r.k=4) (h5:¬ r.k=5) (h6:¬ r.k=6):rec.may r=false:=by unfold rec.may;simp [h1,h2,h3,h4,h5,h6]
end
theorem rd_nums_fine {r:Rc} (h:r.fine):(rec.rd r.k (rec.nums r)).fine:=rec.rd_fine h.1 (rec.nums_fine h)
theorem v_mord (r:Rc)  (w:World):Calls Try.prog 69 #[.agg (rec.rc r)] w fun e w'=>e = .returned (.bool (rec.mayOrder r.o))∧Below w.heap.size w w' :=
 calls_by (fn:=Try.f69) (r:=.bool (rec.mayOrder r.o)) (t:=.s (.k (.s .z .z)) (.k .z)) (X :=
 let k0:=(.bool false:Value) = .bool (rec.mayOrder r.o);let k1:=decide (r.o≤1000000000000); ∀ g0:Nat,((decide (r.o ≥ 1))=true→(k1=true→((.bool true:Value) = .bool (rec.mayOrder r.o)))∧(k1=false→k0))∧((decide (r.o ≥ 1))=false→k0)) Try.func69 (by kernel_rfl)
 (fun g0=>⟨fun h1=>have h1:¬ r.o < 1:=(by simpa using h1)
⟨fun h2=>have h2:¬ 1000000000000 < r.o:=(by simpa using h2)
(vt (by omega)),
 fun h2=>have h2:1000000000000 < r.o:=(by simpa using h2)
(vf (by omega))⟩,
 fun h1=>have h1:r.o < 1:=(by simpa using h1)
(vf (by omega))⟩)
theorem v_macc (r:Rc)  (w:World):Calls Try.prog 70 #[.agg (rec.rc r)] w fun e w'=>e = .returned (.bool (rec.mayAcc r.a))∧Below w.heap.size w w' :=
 calls_by (fn:=Try.f70) (r:=.bool (rec.mayAcc r.a)) (t:=.s (.k (.s .z .z)) (.k .z)) (X :=
 let k0:=(.bool false:Value) = .bool (rec.mayAcc r.a); ∀ g0:Nat,((decide (r.a ≥ 0))=true→((decide (r.a < 8))=true→((.bool true:Value) = .bool (rec.mayAcc r.a)))∧((decide (r.a < 8))=false→k0))∧((decide (r.a ≥ 0))=false→k0)) Try.func70 (by kernel_rfl)
 (fun g0=>⟨fun h1=>have h1:¬ r.a < 0:=(by simpa using h1)
⟨fun h2=>have h2:r.a < 8:=(by simpa using h2)
(vt (by omega)),
 fun h2=>have h2:¬ r.a < 8:=(by simpa using h2)
(vf (by omega))⟩,
 fun h1=>have h1:r.a < 0:=(by simpa using h1)
(vf (by omega))⟩)
theorem v_msym (r:Rc)  (w:World):Calls Try.prog 71 #[.agg (rec.rc r)] w fun e w'=>e = .returned (.bool (rec.mayAcc r.y))∧Below w.heap.size w w' :=
 calls_by (fn:=Try.f71) (r:=.bool (rec.mayAcc r.y)) (t:=.s (.k (.s .z .z)) (.k .z)) (X :=
 let k0:=(.bool false:Value) = .bool (rec.mayAcc r.y); ∀ g0:Nat,((decide (r.y ≥ 0))=true→((decide (r.y < 8))=true→((.bool true:Value) = .bool (rec.mayAcc r.y)))∧((decide (r.y < 8))=false→k0))∧((decide (r.y ≥ 0))=false→k0)) Try.func71 (by kernel_rfl)
 (fun g0=>⟨fun h1=>have h1:¬ r.y < 0:=(by simpa using h1)
⟨fun h2=>have h2:r.y < 8:=(by simpa using h2)
(vt (by omega)),
 fun h2=>have h2:¬ r.y < 8:=(by simpa using h2)
(vf (by omega))⟩,
 fun h1=>have h1:r.y < 0:=(by simpa using h1)
(vf (by omega))⟩)
theorem v_mask (r:Rc)  (w:World):Calls Try.prog 72 #[.agg (rec.rc r)] w fun e w'=>e = .returned (.bool (rec.mayAsk r.q r.p))∧Below w.heap.size w w' :=
 calls_by (fn:=Try.f72) (r:=.bool (rec.mayAsk r.q r.p)) (t:=.s (.k (.s .z .z)) (.k .z)) (X :=
 let k0:=(.bool false:Value) = .bool (rec.mayAsk r.q r.p); ∀ g0:Nat,((decide (r.q ≥ 1))=true→((decide (r.p ≥ 1))=true→((.bool true:Value) = .bool (rec.mayAsk r.q r.p)))∧((decide (r.p ≥ 1))=false→k0))∧((decide (r.q ≥ 1))=false→k0)) Try.func72 (by kernel_rfl)
 (fun g0=>⟨fun h1=>have h1:¬ r.q < 1:=(by simpa using h1)
⟨fun h2=>have h2:¬ r.p < 1:=(by simpa using h2)
(vt (by omega)),
 fun h2=>have h2:r.p < 1:=(by simpa using h2)
(vf (by omega))⟩,
 fun h1=>have h1:r.q < 1:=(by simpa using h1)
(vf (by omega))⟩)
theorem v_mbound (r:Rc)  (w:World):Calls Try.prog 73 #[.agg (rec.rc r)] w fun e w'=>e = .returned (.bool (rec.mayBound r.y r.l r.s r.n))∧Below w.heap.size w w' :=
 calls_by (fn:=Try.f73) (r:=.bool (rec.mayBound r.y r.l r.s r.n)) (t:=.s (.s (.k (.s (.k (.s .z .z)) (.k .z))) (.k (.k .z))) (.cs (rec.mayAcc r.y) (.k (.s (.k (.s (.k (.s .z .z)) (.k .z))) (.k (.k .z)))) (.k (.k (.k .z))))) (X :=
 let k4:=rec.mayBound r.y r.l r.s r.n;let k0:=(.bool false:Value) = .bool k4;let k1:=(.bool true:Value) = .bool k4;let k2:=decide (r.n ≥ 0);let k3:=rec.mayAcc r.y; ∀ g0:Nat,((decide (r.y=(-1)))=true→((decide (r.l=0))=true→((decide (r.s=0))=true→(k2=true→k1)∧(k2=false→k0))∧((decide (r.s=0))=false→k0))∧((decide (r.l=0))=false→k0))∧((decide (r.y=(-1)))=false→Gives Try.prog w [] 71 #[.agg (rec.rc r)] (.bool k3)∧(k3=true→((decide (r.l ≥ 0))=true→((decide (r.s ≥ 0))=true→(k2=true→k1)∧(k2=false→k0))∧((decide (r.s ≥ 0))=false→k0))∧((decide (r.l ≥ 0))=false→k0))∧(k3=false→k0))) Try.func73 (by kernel_rfl)
 (fun g0=>⟨fun h1=>have h1:r.y=(-1):=(by simpa using h1)
⟨fun h2=>have h2:r.l=0:=(by simpa using h2)
⟨fun h3=>have h3:r.s=0:=(by simpa using h3)
⟨fun h4=>have h4:¬ r.n < 0:=(by simpa using h4)
(congrArg Value.bool (bnd_t (by omega)).symm),
 fun h4=>have h4:r.n < 0:=(by simpa using h4)
(congrArg Value.bool (bnd_f (by omega)).symm)⟩,
 fun h3=>have h3:¬ r.s=0:=(by simpa using h3)
(congrArg Value.bool (bnd_f (by omega)).symm)⟩,
 fun h2=>have h2:¬ r.l=0:=(by simpa using h2)
(congrArg Value.bool (bnd_f (by omega)).symm)⟩,
 fun h1=>have h1:¬ r.y=(-1):=(by simpa using h1)
⟨gives (v_msym r),fun h5=>⟨fun h6=>have h6:¬ r.l < 0:=(by simpa using h6)
⟨fun h7=>have h7:¬ r.s < 0:=(by simpa using h7)
⟨fun h8=>have h8:¬ r.n < 0:=(by simpa using h8)
(congrArg Value.bool (bnd_t (by have eh5:=of_decide_eq_true h5;omega)).symm),
 fun h8=>have h8:r.n < 0:=(by simpa using h8)
(congrArg Value.bool (bnd_f (by have eh5:=of_decide_eq_true h5;omega)).symm)⟩,
 fun h7=>have h7:r.s < 0:=(by simpa using h7)
(congrArg Value.bool (bnd_f (by have eh5:=of_decide_eq_true h5;omega)).symm)⟩,
 fun h6=>have h6:r.l < 0:=(by simpa using h6)
(congrArg Value.bool (bnd_f (by have eh5:=of_decide_eq_true h5;omega)).symm)⟩,
 fun h5=>(congrArg Value.bool (bnd_f (by have eh5:=of_decide_eq_false h5;omega)).symm)⟩⟩)
theorem v_mtell (r:Rc)  (w:World):Calls Try.prog 74 #[.agg (rec.rc r)] w fun e w'=>e = .returned (.bool (rec.mayTell r.t r.q r.p))∧Below w.heap.size w w' :=
 calls_by (fn:=Try.f74) (r:=.bool (rec.mayTell r.t r.q r.p)) (t:=.s (.s (.k (.s .z .z)) (.k .z)) (.s (.cs (rec.mayAsk r.q r.p) .z .z) (.s (.s (.k (.s .z .z)) (.k .z)) (.s (.s (.k (.s .z .z)) (.k .z)) (.s (.s (.k (.s .z .z)) (.k .z)) (.s (.s (.k (.s .z .z)) (.k .z)) .z)))))) (X :=
 let k5:=rec.mayTell r.t r.q r.p;let k0:=(.bool false:Value) = .bool k5;let k1:=(.bool true:Value) = .bool k5;let k2:=decide (r.p=0);let k3:=decide (r.q=0);let k4:=rec.mayAsk r.q r.p; ∀ g0:Nat,((decide (r.t=3))=true→((decide (r.q ≥ 1))=true→(k2=true→k1)∧(k2=false→k0))∧((decide (r.q ≥ 1))=false→k0))∧((decide (r.t=3))=false→((decide (r.t=5))=true→Gives Try.prog w [] 72 #[.agg (rec.rc r)] (.bool k4)∧(k4=true→k1)∧(k4=false→k0))∧((decide (r.t=5))=false→((decide (r.t=1))=true→(k3=true→(k2=true→k1)∧(k2=false→k0))∧(k3=false→k0))∧((decide (r.t=1))=false→((decide (r.t=2))=true→(k3=true→(k2=true→k1)∧(k2=false→k0))∧(k3=false→k0))∧((decide (r.t=2))=false→((decide (r.t=4))=true→(k3=true→(k2=true→k1)∧(k2=false→k0))∧(k3=false→k0))∧((decide (r.t=4))=false→((decide (r.t=6))=true→(k3=true→(k2=true→k1)∧(k2=false→k0))∧(k3=false→k0))∧((decide (r.t=6))=false→k0))))))) Try.func74 (by kernel_rfl)
 (fun g0=>⟨fun h1=>have h1:r.t=3:=(by simpa using h1)
⟨fun h2=>have h2:¬ r.q < 1:=(by simpa using h2)
⟨fun h3=>have h3:r.p=0:=(by simpa using h3)
(congrArg Value.bool (tll_t (by omega)).symm),
 fun h3=>have h3:¬ r.p=0:=(by simpa using h3)
(congrArg Value.bool (tll_f (by omega)).symm)⟩,
 fun h2=>have h2:r.q < 1:=(by simpa using h2)
(congrArg Value.bool (tll_f (by omega)).symm)⟩,
 fun h1=>have h1:¬ r.t=3:=(by simpa using h1)
⟨fun h4=>have h4:r.t=5:=(by simpa using h4)
⟨gives (v_mask r),fun h5=>(congrArg Value.bool (tll_t (by have eh5:=of_decide_eq_true h5;omega)).symm),
 fun h5=>(congrArg Value.bool (tll_f (by have eh5:=of_decide_eq_false h5;omega)).symm)⟩,
 fun h4=>have h4:¬ r.t=5:=(by simpa using h4)
⟨fun h6=>have h6:r.t=1:=(by simpa using h6)
⟨fun h7=>have h7:r.q=0:=(by simpa using h7)
⟨fun h8=>have h8:r.p=0:=(by simpa using h8)
(congrArg Value.bool (tll_t (by omega)).symm),
 fun h8=>have h8:¬ r.p=0:=(by simpa using h8)
(congrArg Value.bool (tll_f (by omega)).symm)⟩,
 fun h7=>have h7:¬ r.q=0:=(by simpa using h7)
(congrArg Value.bool (tll_f (by omega)).symm)⟩,
 fun h6=>have h6:¬ r.t=1:=(by simpa using h6)
⟨fun h9=>have h9:r.t=2:=(by simpa using h9)
⟨fun h10=>have h10:r.q=0:=(by simpa using h10)
⟨fun h11=>have h11:r.p=0:=(by simpa using h11)
(congrArg Value.bool (tll_t (by omega)).symm),
 fun h11=>have h11:¬ r.p=0:=(by simpa using h11)
(congrArg Value.bool (tll_f (by omega)).symm)⟩,
 fun h10=>have h10:¬ r.q=0:=(by simpa using h10)
(congrArg Value.bool (tll_f (by omega)).symm)⟩,
 fun h9=>have h9:¬ r.t=2:=(by simpa using h9)
⟨fun h12=>have h12:r.t=4:=(by simpa using h12)
⟨fun h13=>have h13:r.q=0:=(by simpa using h13)
⟨fun h14=>have h14:r.p=0:=(by simpa using h14)
(congrArg Value.bool (tll_t (by omega)).symm),
 fun h14=>have h14:¬ r.p=0:=(by simpa using h14)
(congrArg Value.bool (tll_f (by omega)).symm)⟩,
 fun h13=>have h13:¬ r.q=0:=(by simpa using h13)
(congrArg Value.bool (tll_f (by omega)).symm)⟩,
 fun h12=>have h12:¬ r.t=4:=(by simpa using h12)
⟨fun h15=>have h15:r.t=6:=(by simpa using h15)
⟨fun h16=>have h16:r.q=0:=(by simpa using h16)
⟨fun h17=>have h17:r.p=0:=(by simpa using h17)
(congrArg Value.bool (tll_t (by omega)).symm),
 fun h17=>have h17:¬ r.p=0:=(by simpa using h17)
(congrArg Value.bool (tll_f (by omega)).symm)⟩,
 fun h16=>have h16:¬ r.q=0:=(by simpa using h16)
(congrArg Value.bool (tll_f (by omega)).symm)⟩,
 fun h15=>have h15:¬ r.t=6:=(by simpa using h15)
(congrArg Value.bool (tll_f (by omega)).symm)⟩⟩⟩⟩⟩⟩)
theorem v_may (r:Rc)  (w:World):Calls Try.prog 58 #[.agg (rec.rc r)] w fun e w'=>e = .returned (.bool (rec.may r))∧Below w.heap.size w w' :=
 calls_by (fn:=Try.f58) (r:=.bool (rec.may r)) (t:=let k0:=rec.mayOrder r.o;let k1:=rec.mayAsk r.q r.p; .s (.cs k0 (.k (.cs (rec.mayAcc r.a) (.k (.cs (rec.mayAcc r.y) (.k (.s (.k (.k (.cs k1 .z .z))) (.k (.s (.k (.cs k1 .z .z)) (.k .z))))) (.k (.k .z)))) (.k (.k (.k .z))))) (.k (.k (.k (.k .z))))) (.s (.cs k0 (.k (.cs k1 .z .z)) (.k .z)) (.s (.cs k0 .z .z) (.s (.cs (rec.mayAcc r.a) (.k (.cs (rec.mayBound r.y r.l r.s r.n) .z .z)) (.k .z)) (.s .z (.s (.s (.k (.s (.k (.cs k0 (.k (.cs (rec.mayTell r.t r.q r.p) .z .z)) (.k .z))) (.k (.k .z)))) (.k (.k (.k .z)))) .z)))))) (X :=
 let k0:=(.bool false:Value) = .bool (rec.may r);let k1:=(.bool true:Value) = .bool (rec.may r);let k2:=rec.mayOrder r.o;let k3:Array Value:=#[.agg (rec.rc r)];let k4:=rec.mayAsk r.q r.p;let k5:=rec.mayAcc r.a;let k6:=rec.mayBound r.y r.l r.s r.n;let k7:=rec.mayTell r.t r.q r.p;let k8:=rec.mayAcc r.y;let k9:=decide (r.z≤1000000000); ∀ g0:Nat,((decide (r.k=1))=true→Gives Try.prog w [] 69 k3 (.bool k2)∧(k2=true→Gives Try.prog w [] 70 k3 (.bool k5)∧(k5=true→Gives Try.prog w [] 71 k3 (.bool k8)∧(k8=true→((decide (r.d=1))=true→Gives Try.prog w [] 72 k3 (.bool k4)∧(k4=true→k1)∧(k4=false→k0))∧((decide (r.d=1))=false→((decide (r.d=2))=true→Gives Try.prog w [] 72 k3 (.bool k4)∧(k4=true→k1)∧(k4=false→k0))∧((decide (r.d=2))=false→k0)))∧(k8=false→k0))∧(k5=false→k0))∧(k2=false→k0))∧((decide (r.k=1))=false→((decide (r.k=2))=true→Gives Try.prog w [] 69 k3 (.bool k2)∧(k2=true→Gives Try.prog w [] 72 k3 (.bool k4)∧(k4=true→k1)∧(k4=false→k0))∧(k2=false→k0))∧((decide (r.k=2))=false→((decide (r.k=3))=true→Gives Try.prog w [] 69 k3 (.bool k2)∧(k2=true→k1)∧(k2=false→k0))∧((decide (r.k=3))=false→((decide (r.k=4))=true→Gives Try.prog w [] 70 k3 (.bool k5)∧(k5=true→Gives Try.prog w [] 73 k3 (.bool k6)∧(k6=true→k1)∧(k6=false→k0))∧(k5=false→k0))∧((decide (r.k=4))=false→((decide (r.k=5))=true→k1)∧((decide (r.k=5))=false→((decide (r.k=6))=true→((decide (r.z ≥ 1))=true→(k9=true→Gives Try.prog w [] 69 k3 (.bool k2)∧(k2=true→Gives Try.prog w [] 74 k3 (.bool k7)∧(k7=true→k1)∧(k7=false→k0))∧(k2=false→k0))∧(k9=false→k0))∧((decide (r.z ≥ 1))=false→k0))∧((decide (r.k=6))=false→k0))))))) Try.func58 (by kernel_rfl)
 (fun g0=>⟨fun h1=>have h1:r.k=1:=(by simpa using h1)
⟨gives (v_mord r),fun h2=>⟨gives (v_macc r),fun h3=>⟨gives (v_msym r),fun h4=>⟨fun h5=>have h5:r.d=1:=(by simpa using h5)
⟨gives (v_mask r),fun h6=>(by rw [may_1 h1];simp [h2,h3,h4,h6,h5]<;>omega),
 fun h6=>(by rw [may_1 h1];simp [h2,h3,h4,h6,h5]<;>omega)⟩,
 fun h5=>have h5:¬ r.d=1:=(by simpa using h5)
⟨fun h7=>have h7:r.d=2:=(by simpa using h7)
⟨gives (v_mask r),fun h8=>(by rw [may_1 h1];simp [h2,h3,h4,h8,h5,h7]<;>omega),
 fun h8=>(by rw [may_1 h1];simp [h2,h3,h4,h8,h5,h7]<;>omega)⟩,
 fun h7=>have h7:¬ r.d=2:=(by simpa using h7)
(by rw [may_1 h1];simp [h2,h3,h4,h5,h7]<;>omega)⟩⟩,
 fun h4=>(by rw [may_1 h1];simp [h2,h3,h4])⟩,
 fun h3=>(by rw [may_1 h1];simp [h2,h3])⟩,
 fun h2=>(by rw [may_1 h1];simp [h2])⟩,
 fun h1=>have h1:¬ r.k=1:=(by simpa using h1)
⟨fun h9=>have h9:r.k=2:=(by simpa using h9)
⟨gives (v_mord r),fun h10=>⟨gives (v_mask r),fun h11=>(by rw [may_2 h9];simp [h10,h11]),
 fun h11=>(by rw [may_2 h9];simp [h10,h11])⟩,
 fun h10=>(by rw [may_2 h9];simp [h10])⟩,
 fun h9=>have h9:¬ r.k=2:=(by simpa using h9)
⟨fun h12=>have h12:r.k=3:=(by simpa using h12)
⟨gives (v_mord r),fun h13=>(by rw [may_3 h12];simp [h13]),
 fun h13=>(by rw [may_3 h12];simp [h13])⟩,
 fun h12=>have h12:¬ r.k=3:=(by simpa using h12)
⟨fun h14=>have h14:r.k=4:=(by simpa using h14)
⟨gives (v_macc r),fun h15=>⟨gives (v_mbound r),fun h16=>(by rw [may_4 h14];simp [h15,h16]),
 fun h16=>(by rw [may_4 h14];simp [h15,h16])⟩,
 fun h15=>(by rw [may_4 h14];simp [h15])⟩,
 fun h14=>have h14:¬ r.k=4:=(by simpa using h14)
⟨fun h17=>have h17:r.k=5:=(by simpa using h17)
(by rw [may_5 h17]),
 fun h17=>have h17:¬ r.k=5:=(by simpa using h17)
⟨fun h18=>have h18:r.k=6:=(by simpa using h18)
⟨fun h19=>have h19:¬ r.z < 1:=(by simpa using h19)
⟨fun h20=>have h20:¬ 1000000000 < r.z:=(by simpa using h20)
⟨gives (v_mord r),fun h21=>⟨gives (v_mtell r),fun h22=>(by rw [may_6 h18];simp [h21,h22,h19,h20]<;>omega),
 fun h22=>(by rw [may_6 h18];simp [h21,h22,h19,h20]<;>omega)⟩,
 fun h21=>(by rw [may_6 h18];simp [h21,h19,h20]<;>omega)⟩,
 fun h20=>have h20:1000000000 < r.z:=(by simpa using h20)
(by rw [may_6 h18];simp [h19,h20]<;>omega)⟩,
 fun h19=>have h19:r.z < 1:=(by simpa using h19)
(by rw [may_6 h18];simp [h19]<;>omega)⟩,
 fun h18=>have h18:¬ r.k=6:=(by simpa using h18)
(by rw [may_0 h1 h9 h12 h14 h17 h18])⟩⟩⟩⟩⟩⟩)
theorem v_rright (r:Rc)  (hr:r.fine) (w:World):Calls Try.prog 42 #[.agg (rec.rc r)] w fun e w'=>e = .returned (.bool (rec.right r))∧Below w.heap.size w w' :=
 calls_by (fn:=Try.f42) (r:=.bool (rec.right r)) (t:=.o [] (.cs (rec.may r) (.k (.c (.agg #[.int .i64 ((rec.nums r).b0),.int .i64 ((rec.nums r).b1),.int .i64 ((rec.nums r).b2),.int .i64 ((rec.nums r).b3),.int .i64 ((rec.nums r).b4),.int .i64 ((rec.nums r).b5)]) (.c (.agg (rec.rc (rec.rd r.k (rec.nums r)))) (.xs (decide (rec.rd r.k (rec.nums r)=r)) .z .z)))) (.k .z))) (X :=
 let k0:Array Value:=#[.int .i64 ((rec.nums r).b0),.int .i64 ((rec.nums r).b1),.int .i64 ((rec.nums r).b2),.int .i64 ((rec.nums r).b3),.int .i64 ((rec.nums r).b4),.int .i64 ((rec.nums r).b5)];let k1:=decide (rec.rd r.k (rec.nums r)=r);let k2:Value:=.agg (rec.rc (rec.rd r.k (rec.nums r)));let k3:=(.bool false:Value) = .bool (rec.right r); ∀ g0:Nat,Gives Try.prog w [] 58 #[.agg (rec.rc r)] (.bool (rec.may r))∧((rec.may r)=true→Gives Try.prog w [] 60 #[.agg (rec.rc r)] (.agg k0)∧Gives Try.prog w [] 59 #[.int .i64 r.k,.agg k0] k2∧Yields0 Try.prog w [] (do eqGuard BinOp.eql 58 (.tmp 10) (.tmp 11) k2 (.agg (rec.rc r));Go.binOp BinOp.eql 58 k2 (.agg (rec.rc r))) (.bool k1)∧(k1=true→((.bool true:Value) = .bool (rec.right r)))∧(k1=false→k3))∧((rec.may r)=false→k3)) Try.func42 (by kernel_rfl)
 (fun g0=>⟨gives (v_may r),fun h1=>⟨gives (fun w=>rec.nums_is r.k r.o r.a r.y r.d r.q r.p r.l r.s r.n r.on r.z r.t rfl w),⟨gives (fun w=>rec.read_is r.k _ _ _ _ _ _ rfl w),⟨eql_agg (by kernel_rfl) (rec.run_eq13 (rec.rd r.k (rec.nums r)) r (rd_nums_fine hr) hr) _ _,fun h2=>(by unfold rec.right;rw [h1,h2];rfl),
 fun h2=>(by unfold rec.right;rw [h1,h2];rfl)⟩⟩⟩,
 fun h1=>(by unfold rec.right;rw [h1];rfl)⟩)
theorem l_rec {w0:World} {D:List Fact} {r:Rc} (hf:r.fine):Gives Try.prog w0 D 42 #[.agg (rec.rc r)] (.bool (rec.right r)):=gives (v_rright r hf)
end Go.Proofs.Ytcpahggkioagkaa.book
