/-
  BookI3
-/
import Derived.Test.YtalhdalinpdanabGreatMrz34
set_option linter.unusedVariables false
set_option linter.unusedSimpArgs false
namespace Go.Proofs.YtalhdalinpdanabGreat.book
open Go.RowKit Go.Proofs.YtalhdalinpdanabGreat
open Go.Proofs.YtalhdalinpdanabGreat.order (Or open_ worth)
open Go.Proofs.YtalhdalinpdanabGreat.cell (Ce Ex)
open Go.Proofs.YtalhdalinpdanabGreat.rec (Rc)
set_option maxRecDepth 20000
open Go.Proofs.YtalhdalinpdanabGreat.order (oz)
theorem lens_of {s:St} (hz:SizeOk s.a s.y) (hc:CountOk s):Lens s:=⟨hz,hc.1.1,hc.1.2.1,hc.1.2.2⟩
theorem right_parts {s:St} (h:Rightly s):SizeOk s.a s.y∧CountOk s∧BoundOk s∧HoldOk s∧StepOk s∧OpenOk s:=by
 obtain ⟨h1,h2,h3,h4,h5,h6,h7,h8⟩:=h
 refine ⟨h1,⟨h2,h4.2.2,h3⟩,⟨h5,h6⟩,⟨h4.1,h4.2.1⟩,⟨h7.1,?_,h8.symm⟩,h7.2.2⟩
 rw [show CL s=s.cs from h8.symm];exact h7.2.1
theorem right_all {s:St} (h1:SizeOk s.a s.y) (h2:CountOk s) (h3:BoundOk s) (h4:HoldOk s) (h5:StepOk s) (h6:OpenOk s):right s=true:=by
 refine right_iff.2 ⟨h1,h2.1,h2.2.2,⟨h4.1,h4.2,h2.2.1⟩,h3.1,h3.2,⟨h5.1,?_,h6⟩,h5.2.2.symm⟩
 have:=h5.2.1
 rw [h5.2.2] at this;exact this
theorem lright (v:Sv) (s:St)  (w:World) (h:InS w (Lt w.heap.size) v s):Calls Tryz.prog 18 #[.agg (stc v s)] w fun e w'=>e = .returned (.bool (right s))∧Below w.heap.size w w' :=
 have hlen:=h.len
 calls_by (fn:=Tryz.f18) (r:=.bool (right s)) (t:=.cs (decide (SizeOk s.a s.y)) (.k (.cs (decide (CountOk s)) (.k (.cs (decide (BoundOk s)) (.k (.cs (decide (HoldOk s)) (.k (.cs (decide (StepOk s)) (.k (.cs (decide (OpenOk s)) .z .z)) (.k .z))) (.k (.k .z)))) (.k (.k (.k .z))))) (.k (.k (.k (.k .z)))))) (.k (.k (.k (.k (.k .z)))))) (X :=
 let k0:=(.bool false:Value);let k1:=decide (SizeOk s.a s.y);let k2:Array Value:=#[.agg (stc v s)];let k3:=decide (CountOk s);let k4:=decide (BoundOk s);let k5:=decide (HoldOk s);let k6:=decide (StepOk s);let k7:=decide (OpenOk s); ∀ g0:Nat,Gives Tryz.prog w [] 38 #[.int .i64 s.a,.int .i64 s.y] (.bool k1)∧(k1=true→Gives Tryz.prog w [] 39 k2 (.bool k3)∧(k3=true→Gives Tryz.prog w [] 40 k2 (.bool k4)∧(k4=true→Gives Tryz.prog w [] 41 k2 (.bool k5)∧(k5=true→Gives Tryz.prog w [] 42 k2 (.bool k6)∧(k6=true→Gives Tryz.prog w [] 43 k2 (.bool k7)∧(k7=true→(.bool true:Value) = .bool (right s))∧(k7=false→k0 = .bool (right s)))∧(k6=false→k0 = .bool (right s)))∧(k5=false→k0 = .bool (right s)))∧(k4=false→k0 = .bool (right s)))∧(k3=false→k0 = .bool (right s)))∧(k1=false→k0 = .bool (right s))) Tryz.func18 (by kernel_rfl)
 (fun g0=>⟨gives (lsize s.a s.y),fun h1=>⟨(fun w hw _=>lcount v s w (h.later hw) (of_decide_eq_true h1)),fun h2=>⟨(fun w hw _=>lbound v s w (h.later hw)),fun h3=>⟨(fun w hw _=>lhold v s w (h.later hw) (of_decide_eq_true h1) (of_decide_eq_true h2).2.2.1),fun h4=>⟨(fun w hw _=>lstep v s w (h.later hw) (lens_of (of_decide_eq_true h1) (of_decide_eq_true h2)) (of_decide_eq_true h4)),fun h5=>⟨(fun w hw _=>lopen v s w (h.later hw) (lens_of (of_decide_eq_true h1) (of_decide_eq_true h2))),fun h6=>(by rw [right_all (of_decide_eq_true h1) (of_decide_eq_true h2) (of_decide_eq_true h3) (of_decide_eq_true h4) (of_decide_eq_true h5) (of_decide_eq_true h6)]),
 fun h6=>(by rw [right_no.2 (fun e=>(of_decide_eq_false h6) (right_parts e).2.2.2.2.2)])⟩,
 fun h5=>(by rw [right_no.2 (fun e=>(of_decide_eq_false h5) (right_parts e).2.2.2.2.1)])⟩,
 fun h4=>(by rw [right_no.2 (fun e=>(of_decide_eq_false h4) (right_parts e).2.2.2.1)])⟩,
 fun h3=>(by rw [right_no.2 (fun e=>(of_decide_eq_false h3) (right_parts e).2.2.1)])⟩,
 fun h2=>(by rw [right_no.2 (fun e=>(of_decide_eq_false h2) (right_parts e).2.1)])⟩,
 fun h1=>(by rw [right_no.2 (fun e=>(of_decide_eq_false h1) (right_parts e).1)])⟩)
theorem lask (v:Sv) (s:St) (r:Rc)  (w:World) (h:InS w (Lt w.heap.size) v s) (hrf:r.fine):Calls Tryz.prog 44 #[.agg (stc v s),.agg (rec.rc r)] w fun e w'=>e = .returned (.bool (!decide (Wrong s r)))∧Below w.heap.size w w' :=
 have hlen:=h.len
 calls_by (fn:=Tryz.f44) (r:=.bool (!decide (Wrong s r))) (t:=.cs (right s) (.k (.cs (rec.right r) (.k (.s (.k (.s (.k (.s (.k (.s (.k .z) (.k (.s .z .z)))) (.k .z))) (.k (.k .z)))) (.k (.k (.k .z))))) (.k (.k (.k (.k .z)))))) (.k (.k (.k (.k (.k .z)))))) (X :=
 let k0 := !decide (Wrong s r);let k1:=(.bool false:Value);let k2:=decide (s.lsn < 1000000000);let k3:=decide (r.o > s.last); ∀ g0:Nat,∀ g1:Nat,Gives Tryz.prog w [] 18 #[.agg (stc v s)] (.bool (right s))∧((right s)=true→Gives Tryz.prog w [] 73 #[.agg (rec.rc r)] (.bool (rec.right r))∧((rec.right r)=true→(k2=true→((decide (r.a < s.a))=true→((decide (r.y < s.y))=true→((!decide (r.k=1))=true→(.bool true:Value) = .bool k0)∧((!decide (r.k=1))=false→(k3=true→(.bool true:Value) = .bool k0)∧(k3=false→k1 = .bool k0)))∧((decide (r.y < s.y))=false→k1 = .bool k0))∧((decide (r.a < s.a))=false→k1 = .bool k0))∧(k2=false→k1 = .bool k0))∧((rec.right r)=false→k1 = .bool k0))∧((right s)=false→k1 = .bool k0)) Tryz.func44 (by kernel_rfl)
 (fun g0=>fun g1=>⟨(fun w hw _=>lright v s w (h.later hw)),fun h1=>⟨l_rec hrf,fun h2=>⟨fun h3=>have h3:s.lsn < 1000000000:=(by simpa using h3)
⟨fun h4=>have h4:r.a < s.a:=(by simpa using h4)
⟨fun h5=>have h5:r.y < s.y:=(by simpa using h5)
⟨fun h6=>have h6:¬ r.k=1:=(by simpa using h6)
(by rw [decide_eq_false (wrong_no h1 h2 (by omega) (by omega) (by omega) (fun _=>by omega))]<;>rfl),
 fun h6=>have h6:r.k=1:=(by simpa using h6)
⟨fun h7=>have h7:s.last < r.o:=(by simpa using h7)
(by rw [decide_eq_false (wrong_no h1 h2 (by omega) (by omega) (by omega) (fun _=>by omega))]<;>rfl),
 fun h7=>have h7:¬ s.last < r.o:=(by simpa using h7)
(by rw [decide_eq_true (show Wrong s r from by unfold Wrong;right;right;omega)]<;>rfl)⟩⟩,
 fun h5=>have h5:¬ r.y < s.y:=(by simpa using h5)
(by rw [decide_eq_true (show Wrong s r from by unfold Wrong;right;right;omega)]<;>rfl)⟩,
 fun h4=>have h4:¬ r.a < s.a:=(by simpa using h4)
(by rw [decide_eq_true (show Wrong s r from by unfold Wrong;right;right;omega)]<;>rfl)⟩,
 fun h3=>have h3:¬ s.lsn < 1000000000:=(by simpa using h3)
(by rw [decide_eq_true (show Wrong s r from by unfold Wrong;right;right;omega)]<;>rfl)⟩,
 fun h2=>(by rw [decide_eq_true (show Wrong s r from .inr (.inl h2))]<;>rfl)⟩,
 fun h1=>(by rw [decide_eq_true (show Wrong s r from .inl h1)]<;>rfl)⟩)
end Go.Proofs.YtalhdalinpdanabGreat.book
