/-
  z00
-/
import Derived.Test.YtbbjlfbemibfcaaGreatMrr09
import Derived.Test.YtbbjlfbemibfcaaGreatMrr24
import Derived.Test.YtbbjlfbemibfcaaGreatMrr23
set_option linter.unusedVariables false
set_option linter.unusedSimpArgs false
namespace Go.Proofs.YtbbjlfbemibfcaaGreat.book
open Go.RowKit Go.Proofs.YtbbjlfbemibfcaaGreat
open Go.Proofs.YtbbjlfbemibfcaaGreat.rec (Rc)
set_option maxRecDepth 20000
theorem q4m {y l s n:Int} (h:(y = -1∧l=0∧s=0∧0≤n)∨(0≤y∧y < 8∧0≤l∧0≤s∧0≤n)):rec.Na y l s n=true:=by
 unfold rec.Na rec.Ec
 split<;>simp<;>omega
theorem Yw {y l s n:Int} (h:¬ ((y = -1∧l=0∧s=0∧0≤n)∨(0≤y∧y < 8∧0≤l∧0≤s∧0≤n))):rec.Na y l s n=false:=by
 unfold rec.Na rec.Ec
 split<;>simp<;>omega
theorem qm1 {t q p:Int} (h:(t=3∧1≤q∧p=0)∨(t=5∧1≤q∧1≤p)∨((t=1∨t=2∨t=4∨t=6)∧q=0∧p=0)):rec.Kq t q p=true:=by
 unfold rec.Kq rec.qc4
 repeat' split
 all_goals simp<;>omega
theorem Qm {t q p:Int} (h:¬ ((t=3∧1≤q∧p=0)∨(t=5∧1≤q∧1≤p)∨((t=1∨t=2∨t=4∨t=6)∧q=0∧p=0))):rec.Kq t q p=false:=by
 unfold rec.Kq rec.qc4
 repeat' split
 all_goals simp<;>omega
section
variable {r:Rc}
theorem Xn (h:r.k=1):rec.may r=(rec.Ap r.o && rec.Ec r.a && rec.Ec r.y && decide (r.d=1∨r.d=2) && rec.qc4 r.q r.p):=by unfold rec.may;simp [h]
theorem qxq (h:r.k=2):rec.may r=(rec.Ap r.o && rec.qc4 r.q r.p):=by unfold rec.may;simp [h]
theorem q4n (h:r.k=3):rec.may r=rec.Ap r.o:=by unfold rec.may;simp [h]
theorem qxr (h:r.k=4):rec.may r=(rec.Ec r.a && rec.Na r.y r.l r.s r.n):=by unfold rec.may;simp [h]
theorem q9v (h:r.k=5):rec.may r=true:=by unfold rec.may;simp [h]
theorem qo2 (h:r.k=6):rec.may r=(decide (1≤r.z∧r.z≤1000000000) && rec.Ap r.o && rec.Kq r.t r.q r.p):=by unfold rec.may;simp [h]
theorem q9w (h1:¬ r.k=1) (h2:¬ r.k=2) (h3:¬ r.k=3) (h4:¬ r.k=4) (h5:¬ r.k=5) (h6:¬ r.k=6):rec.may r=false:=by unfold rec.may;simp [h1,h2,h3,h4,h5,h6]
end
theorem qsz {r:Rc} (h:r.fine):(rec.rd r.k (rec.nums r)).fine:=rec.G8 h.1 (rec.qyk h)
theorem qo3 (r:Rc)  (w:World):Calls Tryz.prog 118 #[.agg (rec.rc r)] w fun e w'=>e = .returned (.bool (rec.Ap r.o))∧Below w.heap.size w w' :=
 uw (fn:=Tryz.f118) (r:=.bool (rec.Ap r.o)) (t:=.s (.k (.s .z .z)) (.k .z)) (X :=
 let k0:=(.bool false:Value) = .bool (rec.Ap r.o);let k1:=decide (r.o≤1000000000000); ∀ g0:Nat,((decide (r.o ≥ 1))=true→(k1=true→((.bool true:Value) = .bool (rec.Ap r.o)))∧(k1=false→k0))∧((decide (r.o ≥ 1))=false→k0)) Tryz.func118 (by kernel_rfl)
 (fun g0=>⟨fun h1=>have h1:¬ r.o < 1:=(by simpa using h1)
⟨fun h2=>have h2:¬ 1000000000000 < r.o:=(by simpa using h2)
(vt (by omega)),
 fun h2=>have h2:1000000000000 < r.o:=(by simpa using h2)
(vf (by omega))⟩,
 fun h1=>have h1:r.o < 1:=(by simpa using h1)
(vf (by omega))⟩)
theorem qzp (r:Rc)  (w:World):Calls Tryz.prog 119 #[.agg (rec.rc r)] w fun e w'=>e = .returned (.bool (rec.Ec r.a))∧Below w.heap.size w w' :=
 uw (fn:=Tryz.f119) (r:=.bool (rec.Ec r.a)) (t:=.s (.k (.s .z .z)) (.k .z)) (X :=
 let k0:=(.bool false:Value) = .bool (rec.Ec r.a); ∀ g0:Nat,((decide (r.a ≥ 0))=true→((decide (r.a < 8))=true→((.bool true:Value) = .bool (rec.Ec r.a)))∧((decide (r.a < 8))=false→k0))∧((decide (r.a ≥ 0))=false→k0)) Tryz.func119 (by kernel_rfl)
 (fun g0=>⟨fun h1=>have h1:¬ r.a < 0:=(by simpa using h1)
⟨fun h2=>have h2:r.a < 8:=(by simpa using h2)
(vt (by omega)),
 fun h2=>have h2:¬ r.a < 8:=(by simpa using h2)
(vf (by omega))⟩,
 fun h1=>have h1:r.a < 0:=(by simpa using h1)
(vf (by omega))⟩)
theorem qzq (r:Rc)  (w:World):Calls Tryz.prog 120 #[.agg (rec.rc r)] w fun e w'=>e = .returned (.bool (rec.Ec r.y))∧Below w.heap.size w w' :=
 uw (fn:=Tryz.f120) (r:=.bool (rec.Ec r.y)) (t:=.s (.k (.s .z .z)) (.k .z)) (X :=
 let k0:=(.bool false:Value) = .bool (rec.Ec r.y); ∀ g0:Nat,((decide (r.y ≥ 0))=true→((decide (r.y < 8))=true→((.bool true:Value) = .bool (rec.Ec r.y)))∧((decide (r.y < 8))=false→k0))∧((decide (r.y ≥ 0))=false→k0)) Tryz.func120 (by kernel_rfl)
 (fun g0=>⟨fun h1=>have h1:¬ r.y < 0:=(by simpa using h1)
⟨fun h2=>have h2:r.y < 8:=(by simpa using h2)
(vt (by omega)),
 fun h2=>have h2:¬ r.y < 8:=(by simpa using h2)
(vf (by omega))⟩,
 fun h1=>have h1:r.y < 0:=(by simpa using h1)
(vf (by omega))⟩)
theorem qo4 (r:Rc)  (w:World):Calls Tryz.prog 121 #[.agg (rec.rc r)] w fun e w'=>e = .returned (.bool (rec.qc4 r.q r.p))∧Below w.heap.size w w' :=
 uw (fn:=Tryz.f121) (r:=.bool (rec.qc4 r.q r.p)) (t:=.s (.k (.s .z .z)) (.k .z)) (X :=
 let k0:=(.bool false:Value) = .bool (rec.qc4 r.q r.p); ∀ g0:Nat,((decide (r.q ≥ 1))=true→((decide (r.p ≥ 1))=true→((.bool true:Value) = .bool (rec.qc4 r.q r.p)))∧((decide (r.p ≥ 1))=false→k0))∧((decide (r.q ≥ 1))=false→k0)) Tryz.func121 (by kernel_rfl)
 (fun g0=>⟨fun h1=>have h1:¬ r.q < 1:=(by simpa using h1)
⟨fun h2=>have h2:¬ r.p < 1:=(by simpa using h2)
(vt (by omega)),
 fun h2=>have h2:r.p < 1:=(by simpa using h2)
(vf (by omega))⟩,
 fun h1=>have h1:r.q < 1:=(by simpa using h1)
(vf (by omega))⟩)
theorem q2i (r:Rc)  (w:World):Calls Tryz.prog 122 #[.agg (rec.rc r)] w fun e w'=>e = .returned (.bool (rec.Na r.y r.l r.s r.n))∧Below w.heap.size w w' :=
 uw (fn:=Tryz.f122) (r:=.bool (rec.Na r.y r.l r.s r.n)) (t:=.s (.s (.k (.s (.k (.s .z .z)) (.k .z))) (.k (.k .z))) (.cs (rec.Ec r.y) (.k (.s (.k (.s (.k (.s .z .z)) (.k .z))) (.k (.k .z)))) (.k (.k (.k .z))))) (X :=
 let k4:=rec.Na r.y r.l r.s r.n;let k0:=(.bool false:Value) = .bool k4;let k1:=(.bool true:Value) = .bool k4;let k2:=decide (r.n ≥ 0);let k3:=rec.Ec r.y; ∀ g0:Nat,((decide (r.y=(-1)))=true→((decide (r.l=0))=true→((decide (r.s=0))=true→(k2=true→k1)∧(k2=false→k0))∧((decide (r.s=0))=false→k0))∧((decide (r.l=0))=false→k0))∧((decide (r.y=(-1)))=false→iq Tryz.prog w [] 120 #[.agg (rec.rc r)] (.bool k3)∧(k3=true→((decide (r.l ≥ 0))=true→((decide (r.s ≥ 0))=true→(k2=true→k1)∧(k2=false→k0))∧((decide (r.s ≥ 0))=false→k0))∧((decide (r.l ≥ 0))=false→k0))∧(k3=false→k0))) Tryz.func122 (by kernel_rfl)
 (fun g0=>⟨fun h1=>have h1:r.y=(-1):=(by simpa using h1)
⟨fun h2=>have h2:r.l=0:=(by simpa using h2)
⟨fun h3=>have h3:r.s=0:=(by simpa using h3)
⟨fun h4=>have h4:¬ r.n < 0:=(by simpa using h4)
(congrArg Value.bool (q4m (by omega)).symm),
 fun h4=>have h4:r.n < 0:=(by simpa using h4)
(congrArg Value.bool (Yw (by omega)).symm)⟩,
 fun h3=>have h3:¬ r.s=0:=(by simpa using h3)
(congrArg Value.bool (Yw (by omega)).symm)⟩,
 fun h2=>have h2:¬ r.l=0:=(by simpa using h2)
(congrArg Value.bool (Yw (by omega)).symm)⟩,
 fun h1=>have h1:¬ r.y=(-1):=(by simpa using h1)
⟨gives (qzq r),fun h5=>⟨fun h6=>have h6:¬ r.l < 0:=(by simpa using h6)
⟨fun h7=>have h7:¬ r.s < 0:=(by simpa using h7)
⟨fun h8=>have h8:¬ r.n < 0:=(by simpa using h8)
(congrArg Value.bool (q4m (by have eh5:=of_decide_eq_true h5;omega)).symm),
 fun h8=>have h8:r.n < 0:=(by simpa using h8)
(congrArg Value.bool (Yw (by have eh5:=of_decide_eq_true h5;omega)).symm)⟩,
 fun h7=>have h7:r.s < 0:=(by simpa using h7)
(congrArg Value.bool (Yw (by have eh5:=of_decide_eq_true h5;omega)).symm)⟩,
 fun h6=>have h6:r.l < 0:=(by simpa using h6)
(congrArg Value.bool (Yw (by have eh5:=of_decide_eq_true h5;omega)).symm)⟩,
 fun h5=>(congrArg Value.bool (Yw (by have eh5:=of_decide_eq_false h5;omega)).symm)⟩⟩)
theorem q5q (r:Rc)  (w:World):Calls Tryz.prog 123 #[.agg (rec.rc r)] w fun e w'=>e = .returned (.bool (rec.Kq r.t r.q r.p))∧Below w.heap.size w w' :=
 uw (fn:=Tryz.f123) (r:=.bool (rec.Kq r.t r.q r.p)) (t:=.s (.s (.k (.s .z .z)) (.k .z)) (.s (.cs (rec.qc4 r.q r.p) .z .z) (.s (.s (.k (.s .z .z)) (.k .z)) (.s (.s (.k (.s .z .z)) (.k .z)) (.s (.s (.k (.s .z .z)) (.k .z)) (.s (.s (.k (.s .z .z)) (.k .z)) .z)))))) (X :=
 let k5:=rec.Kq r.t r.q r.p;let k0:=(.bool false:Value) = .bool k5;let k1:=(.bool true:Value) = .bool k5;let k2:=decide (r.p=0);let k3:=decide (r.q=0);let k4:=rec.qc4 r.q r.p; ∀ g0:Nat,((decide (r.t=3))=true→((decide (r.q ≥ 1))=true→(k2=true→k1)∧(k2=false→k0))∧((decide (r.q ≥ 1))=false→k0))∧((decide (r.t=3))=false→((decide (r.t=5))=true→iq Tryz.prog w [] 121 #[.agg (rec.rc r)] (.bool k4)∧(k4=true→k1)∧(k4=false→k0))∧((decide (r.t=5))=false→((decide (r.t=1))=true→(k3=true→(k2=true→k1)∧(k2=false→k0))∧(k3=false→k0))∧((decide (r.t=1))=false→((decide (r.t=2))=true→(k3=true→(k2=true→k1)∧(k2=false→k0))∧(k3=false→k0))∧((decide (r.t=2))=false→((decide (r.t=4))=true→(k3=true→(k2=true→k1)∧(k2=false→k0))∧(k3=false→k0))∧((decide (r.t=4))=false→((decide (r.t=6))=true→(k3=true→(k2=true→k1)∧(k2=false→k0))∧(k3=false→k0))∧((decide (r.t=6))=false→k0))))))) Tryz.func123 (by kernel_rfl)
 (fun g0=>⟨fun h1=>have h1:r.t=3:=(by simpa using h1)
⟨fun h2=>have h2:¬ r.q < 1:=(by simpa using h2)
⟨fun h3=>have h3:r.p=0:=(by simpa using h3)
(congrArg Value.bool (qm1 (by omega)).symm),
 fun h3=>have h3:¬ r.p=0:=(by simpa using h3)
(congrArg Value.bool (Qm (by omega)).symm)⟩,
 fun h2=>have h2:r.q < 1:=(by simpa using h2)
(congrArg Value.bool (Qm (by omega)).symm)⟩,
 fun h1=>have h1:¬ r.t=3:=(by simpa using h1)
⟨fun h4=>have h4:r.t=5:=(by simpa using h4)
⟨gives (qo4 r),fun h5=>(congrArg Value.bool (qm1 (by have eh5:=of_decide_eq_true h5;omega)).symm),
 fun h5=>(congrArg Value.bool (Qm (by have eh5:=of_decide_eq_false h5;omega)).symm)⟩,
 fun h4=>have h4:¬ r.t=5:=(by simpa using h4)
⟨fun h6=>have h6:r.t=1:=(by simpa using h6)
⟨fun h7=>have h7:r.q=0:=(by simpa using h7)
⟨fun h8=>have h8:r.p=0:=(by simpa using h8)
(congrArg Value.bool (qm1 (by omega)).symm),
 fun h8=>have h8:¬ r.p=0:=(by simpa using h8)
(congrArg Value.bool (Qm (by omega)).symm)⟩,
 fun h7=>have h7:¬ r.q=0:=(by simpa using h7)
(congrArg Value.bool (Qm (by omega)).symm)⟩,
 fun h6=>have h6:¬ r.t=1:=(by simpa using h6)
⟨fun h9=>have h9:r.t=2:=(by simpa using h9)
⟨fun h10=>have h10:r.q=0:=(by simpa using h10)
⟨fun h11=>have h11:r.p=0:=(by simpa using h11)
(congrArg Value.bool (qm1 (by omega)).symm),
 fun h11=>have h11:¬ r.p=0:=(by simpa using h11)
(congrArg Value.bool (Qm (by omega)).symm)⟩,
 fun h10=>have h10:¬ r.q=0:=(by simpa using h10)
(congrArg Value.bool (Qm (by omega)).symm)⟩,
 fun h9=>have h9:¬ r.t=2:=(by simpa using h9)
⟨fun h12=>have h12:r.t=4:=(by simpa using h12)
⟨fun h13=>have h13:r.q=0:=(by simpa using h13)
⟨fun uy=>have uy:r.p=0:=(by simpa using uy)
(congrArg Value.bool (qm1 (by omega)).symm),
 fun uy=>have uy:¬ r.p=0:=(by simpa using uy)
(congrArg Value.bool (Qm (by omega)).symm)⟩,
 fun h13=>have h13:¬ r.q=0:=(by simpa using h13)
(congrArg Value.bool (Qm (by omega)).symm)⟩,
 fun h12=>have h12:¬ r.t=4:=(by simpa using h12)
⟨fun h15=>have h15:r.t=6:=(by simpa using h15)
⟨fun h16=>have h16:r.q=0:=(by simpa using h16)
⟨fun h17=>have h17:r.p=0:=(by simpa using h17)
(congrArg Value.bool (qm1 (by omega)).symm),
 fun h17=>have h17:¬ r.p=0:=(by simpa using h17)
(congrArg Value.bool (Qm (by omega)).symm)⟩,
 fun h16=>have h16:¬ r.q=0:=(by simpa using h16)
(congrArg Value.bool (Qm (by omega)).symm)⟩,
 fun h15=>have h15:¬ r.t=6:=(by simpa using h15)
(congrArg Value.bool (Qm (by omega)).symm)⟩⟩⟩⟩⟩⟩)
theorem q9x (r:Rc)  (w:World):Calls Tryz.prog 97 #[.agg (rec.rc r)] w fun e w'=>e = .returned (.bool (rec.may r))∧Below w.heap.size w w' :=
 uw (fn:=Tryz.f97) (r:=.bool (rec.may r)) (t:=let k0:=rec.Ap r.o;let k1:=rec.qc4 r.q r.p; .s (.cs k0 (.k (.cs (rec.Ec r.a) (.k (.cs (rec.Ec r.y) (.k (.s (.k (.k (.cs k1 .z .z))) (.k (.s (.k (.cs k1 .z .z)) (.k .z))))) (.k (.k .z)))) (.k (.k (.k .z))))) (.k (.k (.k (.k .z))))) (.s (.cs k0 (.k (.cs k1 .z .z)) (.k .z)) (.s (.cs k0 .z .z) (.s (.cs (rec.Ec r.a) (.k (.cs (rec.Na r.y r.l r.s r.n) .z .z)) (.k .z)) (.s .z (.s (.s (.k (.s (.k (.cs k0 (.k (.cs (rec.Kq r.t r.q r.p) .z .z)) (.k .z))) (.k (.k .z)))) (.k (.k (.k .z)))) .z)))))) (X :=
 let k0:=(.bool false:Value) = .bool (rec.may r);let k1:=(.bool true:Value) = .bool (rec.may r);let k2:=rec.Ap r.o;let k3:Array Value:=#[.agg (rec.rc r)];let k4:=rec.qc4 r.q r.p;let k5:=rec.Ec r.a;let k6:=rec.Na r.y r.l r.s r.n;let k7:=rec.Kq r.t r.q r.p;let k8:=rec.Ec r.y;let k9:=decide (r.z≤1000000000); ∀ g0:Nat,((decide (r.k=1))=true→iq Tryz.prog w [] 118 k3 (.bool k2)∧(k2=true→iq Tryz.prog w [] 119 k3 (.bool k5)∧(k5=true→iq Tryz.prog w [] 120 k3 (.bool k8)∧(k8=true→((decide (r.d=1))=true→iq Tryz.prog w [] 121 k3 (.bool k4)∧(k4=true→k1)∧(k4=false→k0))∧((decide (r.d=1))=false→((decide (r.d=2))=true→iq Tryz.prog w [] 121 k3 (.bool k4)∧(k4=true→k1)∧(k4=false→k0))∧((decide (r.d=2))=false→k0)))∧(k8=false→k0))∧(k5=false→k0))∧(k2=false→k0))∧((decide (r.k=1))=false→((decide (r.k=2))=true→iq Tryz.prog w [] 118 k3 (.bool k2)∧(k2=true→iq Tryz.prog w [] 121 k3 (.bool k4)∧(k4=true→k1)∧(k4=false→k0))∧(k2=false→k0))∧((decide (r.k=2))=false→((decide (r.k=3))=true→iq Tryz.prog w [] 118 k3 (.bool k2)∧(k2=true→k1)∧(k2=false→k0))∧((decide (r.k=3))=false→((decide (r.k=4))=true→iq Tryz.prog w [] 119 k3 (.bool k5)∧(k5=true→iq Tryz.prog w [] 122 k3 (.bool k6)∧(k6=true→k1)∧(k6=false→k0))∧(k5=false→k0))∧((decide (r.k=4))=false→((decide (r.k=5))=true→k1)∧((decide (r.k=5))=false→((decide (r.k=6))=true→((decide (r.z ≥ 1))=true→(k9=true→iq Tryz.prog w [] 118 k3 (.bool k2)∧(k2=true→iq Tryz.prog w [] 123 k3 (.bool k7)∧(k7=true→k1)∧(k7=false→k0))∧(k2=false→k0))∧(k9=false→k0))∧((decide (r.z ≥ 1))=false→k0))∧((decide (r.k=6))=false→k0))))))) Tryz.func97 (by kernel_rfl)
 (fun g0=>⟨fun h1=>have h1:r.k=1:=(by simpa using h1)
⟨gives (qo3 r),fun h2=>⟨gives (qzp r),fun h3=>⟨gives (qzq r),fun h4=>⟨fun h5=>have h5:r.d=1:=(by simpa using h5)
⟨gives (qo4 r),fun h6=>(by rw [Xn h1];simp [h2,h3,h4,h6,h5]<;>omega),
 fun h6=>(by rw [Xn h1];simp [h2,h3,h4,h6,h5]<;>omega)⟩,
 fun h5=>have h5:¬ r.d=1:=(by simpa using h5)
⟨fun h7=>have h7:r.d=2:=(by simpa using h7)
⟨gives (qo4 r),fun h8=>(by rw [Xn h1];simp [h2,h3,h4,h8,h5,h7]<;>omega),
 fun h8=>(by rw [Xn h1];simp [h2,h3,h4,h8,h5,h7]<;>omega)⟩,
 fun h7=>have h7:¬ r.d=2:=(by simpa using h7)
(by rw [Xn h1];simp [h2,h3,h4,h5,h7]<;>omega)⟩⟩,
 fun h4=>(by rw [Xn h1];simp [h2,h3,h4])⟩,
 fun h3=>(by rw [Xn h1];simp [h2,h3])⟩,
 fun h2=>(by rw [Xn h1];simp [h2])⟩,
 fun h1=>have h1:¬ r.k=1:=(by simpa using h1)
⟨fun h9=>have h9:r.k=2:=(by simpa using h9)
⟨gives (qo3 r),fun h10=>⟨gives (qo4 r),fun h11=>(by rw [qxq h9];simp [h10,h11]),
 fun h11=>(by rw [qxq h9];simp [h10,h11])⟩,
 fun h10=>(by rw [qxq h9];simp [h10])⟩,
 fun h9=>have h9:¬ r.k=2:=(by simpa using h9)
⟨fun h12=>have h12:r.k=3:=(by simpa using h12)
⟨gives (qo3 r),fun h13=>(by rw [q4n h12];simp [h13]),
 fun h13=>(by rw [q4n h12];simp [h13])⟩,
 fun h12=>have h12:¬ r.k=3:=(by simpa using h12)
⟨fun uy=>have uy:r.k=4:=(by simpa using uy)
⟨gives (qzp r),fun h15=>⟨gives (q2i r),fun h16=>(by rw [qxr uy];simp [h15,h16]),
 fun h16=>(by rw [qxr uy];simp [h15,h16])⟩,
 fun h15=>(by rw [qxr uy];simp [h15])⟩,
 fun uy=>have uy:¬ r.k=4:=(by simpa using uy)
⟨fun h17=>have h17:r.k=5:=(by simpa using h17)
(by rw [q9v h17]),
 fun h17=>have h17:¬ r.k=5:=(by simpa using h17)
⟨fun h18=>have h18:r.k=6:=(by simpa using h18)
⟨fun h19=>have h19:¬ r.z < 1:=(by simpa using h19)
⟨fun h20=>have h20:¬ 1000000000 < r.z:=(by simpa using h20)
⟨gives (qo3 r),fun h21=>⟨gives (q5q r),fun h22=>(by rw [qo2 h18];simp [h21,h22,h19,h20]<;>omega),
 fun h22=>(by rw [qo2 h18];simp [h21,h22,h19,h20]<;>omega)⟩,
 fun h21=>(by rw [qo2 h18];simp [h21,h19,h20]<;>omega)⟩,
 fun h20=>have h20:1000000000 < r.z:=(by simpa using h20)
(by rw [qo2 h18];simp [h19,h20]<;>omega)⟩,
 fun h19=>have h19:r.z < 1:=(by simpa using h19)
(by rw [qo2 h18];simp [h19]<;>omega)⟩,
 fun h18=>have h18:¬ r.k=6:=(by simpa using h18)
(by rw [q9w h1 h9 h12 uy h17 h18])⟩⟩⟩⟩⟩⟩)
theorem q2j (r:Rc)  (hr:r.fine) (w:World):Calls Tryz.prog 73 #[.agg (rec.rc r)] w fun e w'=>e = .returned (.bool (rec.right r))∧Below w.heap.size w w' :=
 uw (fn:=Tryz.f73) (r:=.bool (rec.right r)) (t:=.o [] (.cs (rec.may r) (.k (.c (.agg #[.int .i64 ((rec.nums r).b0),.int .i64 ((rec.nums r).b1),.int .i64 ((rec.nums r).b2),.int .i64 ((rec.nums r).b3),.int .i64 ((rec.nums r).b4),.int .i64 ((rec.nums r).b5)]) (.c (.agg (rec.rc (rec.rd r.k (rec.nums r)))) (.xs (decide (rec.rd r.k (rec.nums r)=r)) .z .z)))) (.k .z))) (X :=
 let k0:Array Value:=#[.int .i64 ((rec.nums r).b0),.int .i64 ((rec.nums r).b1),.int .i64 ((rec.nums r).b2),.int .i64 ((rec.nums r).b3),.int .i64 ((rec.nums r).b4),.int .i64 ((rec.nums r).b5)];let k1:=decide (rec.rd r.k (rec.nums r)=r);let k2:Value:=.agg (rec.rc (rec.rd r.k (rec.nums r)));let k3:=(.bool false:Value) = .bool (rec.right r); ∀ g0:Nat,iq Tryz.prog w [] 97 #[.agg (rec.rc r)] (.bool (rec.may r))∧((rec.may r)=true→iq Tryz.prog w [] 99 #[.agg (rec.rc r)] (.agg k0)∧iq Tryz.prog w [] 98 #[.int .i64 r.k,.agg k0] k2∧jd Tryz.prog w [] (do eqGuard BinOp.eql 46 (.tmp 10) (.tmp 11) k2 (.agg (rec.rc r));Go.binOp BinOp.eql 46 k2 (.agg (rec.rc r))) (.bool k1)∧(k1=true→((.bool true:Value) = .bool (rec.right r)))∧(k1=false→k3))∧((rec.may r)=false→k3)) Tryz.func73 (by kernel_rfl)
 (fun g0=>⟨gives (q9x r),fun h1=>⟨gives (fun w=>rec.q5m r.k r.o r.a r.y r.d r.q r.p r.l r.s r.n r.on r.z r.t rfl w),⟨gives (fun w=>rec.q5p r.k _ _ _ _ _ _ rfl w),⟨q45 (by kernel_rfl) (rec.qsy (rec.rd r.k (rec.nums r)) r (qsz hr) hr) _ _,fun h2=>(by unfold rec.right;rw [h1,h2];rfl),
 fun h2=>(by unfold rec.right;rw [h1,h2];rfl)⟩⟩⟩,
 fun h1=>(by unfold rec.right;rw [h1];rfl)⟩)
theorem qxs {w0:World} {D:List Fact} {r:Rc} (hf:r.fine):iq Tryz.prog w0 D 73 #[.agg (rec.rc r)] (.bool (rec.right r)):=gives (q2j r hf)
end Go.Proofs.YtbbjlfbemibfcaaGreat.book
