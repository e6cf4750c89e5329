/-
  FrameEq, Api04
-/
import Derived.Test.YtalhdalinpdanaaGreatDoorMwl20
import Derived.Test.YtalhdalinpdanaaGreatDoorMwl21
import Derived.Test.YtalhdalinpdanaaGreatDoorRows
import Derived.Test.YtalhdalinpdanaaGreatDoorMwl04
set_option linter.unusedVariables false
set_option linter.unusedSimpArgs false
section
namespace Go.Proofs.YtalhdalinpdanaaGreatDoor.frame
set_option maxRecDepth 20000
open Go.RowKit Go.Proofs.YtalhdalinpdanaaGreatDoor
theorem run_eq4 (a b c d a' b' c' d' : Nat) (h:a < 256∧b < 256∧c < 256∧d < 256) (h' : a' < 256∧b' < 256∧c' < 256∧d' < 256) (W:World) :
  (Op.equalIn 10000 178 (.agg #[.int .u8 (a:Int),.int .u8 (b:Int),.int .u8 (c:Int),.int .u8 (d:Int)]) (.agg #[.int .u8 (a' : Int),.int .u8 (b' : Int),.int .u8 (c' : Int),.int .u8 (d' : Int)])).run Tryz.prog W = .ok (decide (a=a'∧b=b'∧c=c'∧d=d')) W:=by
 have c1:Tryz.prog.cellsOf 5=1:=by kernel_rfl
 have kl:∀ a b c d:Nat,a < 256∧b < 256∧c < 256∧d < 256→Tryz.prog.keyLits 2 178 [.int .u8 (a:Int),.int .u8 (b:Int),.int .u8 (c:Int),.int .u8 (d:Int)]=some [.int .u8 (a:Int),.int .u8 (b:Int),.int .u8 (c:Int),.int .u8 (d:Int)]:=fun a b c d ⟨h0,h1,h2,h3⟩=>by
  rw [kl_array 1 _ Tryz.underlying178 (by kernel_rfl),c1]
  simp [List.range,List.range.loop,kl_int 0 _ Tryz.underlying5,wf_u8,h0,h1,h2,h3]
 exact run_eq_by (by kernel_rfl) 2 (by kernel_rfl) (by kernel_rfl) (kl a b c d h) (kl a' b' c' d' h') _ (by simp;omega) W
theorem wf_i64 {x:Int} (h:inR x):(Lit.int .i64 x).wf=true:=by
 simpa [Lit.wf,IntKind.min,IntKind.max,IntKind.signed,IntKind.bits,inR] using h
theorem run_eq9 (f g:Fr) (hf:f.fine) (hg:g.fine) (W:World) :
  (Op.equalIn 10000 72 (.agg (fc f)) (.agg (fc g))).run Tryz.prog W = .ok (decide (f=g)) W:=by
 have c1:Tryz.prog.cellsOf 2=1:=by kernel_rfl
 have c3:Tryz.prog.cellsOf 3=1:=by kernel_rfl
 have c6:Tryz.prog.cellsOf 28=6:=by kernel_rfl
 have kl:∀ f:Fr,f.fine→Tryz.prog.keyLits 3 72 (fc f).toList=some [.int .i64 f.e,.int .i64 f.l,.int .i64 f.k,.int .i64 f.b0,.int .i64 f.b1,.int .i64 f.b2,.int .i64 f.b3,.int .i64 f.b4,.int .i64 f.b5]:=fun f ⟨h0,h1,h2,h3,h4,h5,h6,h7,h8⟩=>by
  have kb:Tryz.prog.keyLits 2 28 [.int .i64 f.b0,.int .i64 f.b1,.int .i64 f.b2,.int .i64 f.b3,.int .i64 f.b4,.int .i64 f.b5]=some [.int .i64 f.b0,.int .i64 f.b1,.int .i64 f.b2,.int .i64 f.b3,.int .i64 f.b4,.int .i64 f.b5]:=by
   rw [kl_array 1 _ Tryz.underlying28 (by kernel_rfl),c1]
   simp [List.range,List.range.loop,kl_int 0 _ Tryz.underlying2,wf_i64 h3,wf_i64 h4,wf_i64 h5,wf_i64 h6,wf_i64 h7,wf_i64 h8]
  rw [kl_struct 2 _ Tryz.underlying72 (by kernel_rfl) (by kernel_rfl)]
  simp [fc,c1,c3,c6,kb,kl_int 1 _ Tryz.underlying2,kl_int 1 _ Tryz.underlying3,wf_i64 h0,wf_i64 h1,wf_i64 h2]
 refine run_eq_by (by kernel_rfl) 3 (by kernel_rfl) (by kernel_rfl) (kl f hf) (kl g hg) _ ?_ W
 obtain ⟨e,l,k,b0,b1,b2,b3,b4,b5⟩:=f
 obtain ⟨e',l',k',b0',b1',b2',b3',b4',b5'⟩:=g
 simp
end Go.Proofs.YtalhdalinpdanaaGreatDoor.frame
end
section
namespace Go.Proofs.YtalhdalinpdanaaGreatDoor
set_option maxRecDepth 20000
open Go.RowKit
abbrev FrameD:Type:=frame.Fr
def rdFrame:Rd FrameD:=fun _ _ cs f=>cs=(frame.fc f).toList∧f.fine
theorem keeps_frame:Keeps rdFrame:=fun _ _ _ _ _ _ h _ _=>h
end Go.Proofs.YtalhdalinpdanaaGreatDoor
end
