/-
  Keys, Ret
-/
import Derived.Test.YtcpahggkioagkaaMvf01
import Derived.DeepKeys
import Derived.Test.YtcpahggkioagkaaMvf11
set_option linter.unusedVariables false
set_option linter.unusedSimpArgs false
section
namespace Go.Proofs.Ytcpahggkioagkaa
set_option maxRecDepth 20000
open Go.RowKit
theorem kl_int {P:Program} {t:TypeId} {q:IntKind} (d:Nat) (n:Int) (ht:P.underlying t=some (.int q)) (hw:(Lit.int q n).wf=true):P.keyLits (d+1) t [.int q n]=some [.int q n]:=by
 simp [Program.keyLits,ht,hw]
theorem kl_bool {P:Program} {t:TypeId} (d:Nat) (b:Bool) (ht:P.underlying t=some .bool):P.keyLits (d+1) t [.bool b]=some [.bool b]:=by
 simp [Program.keyLits,ht]
theorem kl_struct {P : Program} {t : TypeId} {fs : Array Field} (d : Nat) (cs : List Value) (ht : P.underlying t = some (.struct fs)) (hf : fs.all (·.name != "_") = true) (hl : cs.length = P.cellsOf t) : P.keyLits (d + 1) t cs = (fs.toList.mapM fun f => P.keyLits d f.type ((cs.drop f.offset).take (P.cellsOf f.type))).map List.flatten := by
 simp only [Program.keyLits,ht,hl,hf,true_and,if_true]
theorem run_eq_by {P:Program} {t:TypeId} (hk:P.keyTypeAt 4 t=true) {xs ys:Array Value} {lx ly:List Lit} (D:Nat) (fx:(Value.agg xs).formed P t=true) (fy:(Value.agg ys).formed P t=true) (hx:P.keyLits D t xs.toList=some lx) (hy:P.keyLits D t ys.toList=some ly) (p:Prop) [Decidable p] (hp:lx=ly ↔ p) (W:World) :
  (Op.equalIn 10000 t (.agg xs) (.agg ys)).run P W = .ok (decide p) W:=by
 obtain ⟨r,h1,h2⟩:=run_equalIn_deep (P:=P) 9996 4 t hk W D D (.agg xs) (.agg ys) lx ly fx fy hx hy
 have:r=decide p:=by rw [Bool.eq_iff_iff,h2,hp];simp
 rw [← this]
 exact h1
end Go.Proofs.Ytcpahggkioagkaa
end
section
namespace Go.Proofs.Ytcpahggkioagkaa.rec
set_option maxRecDepth 20000
open Go.RowKit
open Go.Proofs.Ytcpahggkioagkaa.frame (inR)
theorem retB {a b:Bool} (h:a=b):Ending.returned (.bool a) = .returned (.bool b):=by rw [h]
theorem wf64 {x:Int} (h:inR x):(Lit.int .i64 x).wf=true:=by
 simpa [Lit.wf,IntKind.min,IntKind.max,IntKind.signed,IntKind.bits,inR] using h
end Go.Proofs.Ytcpahggkioagkaa.rec
namespace Go.Proofs.Ytcpahggkioagkaa.order
open Go.RowKit
end Go.Proofs.Ytcpahggkioagkaa.order
end
