/-
  CelV
-/
import Derived.Test.YtbbjlfbemibfcaaGreatMrt30
import Derived.Test.YtbbjlfbemibfcaaGreatMrt24
import Derived.Test.YtbbjlfbemibfcaaGreatMrt14
import Derived.Test.YtbbjlfbemibfcaaGreatMrt15
set_option linter.unusedVariables false
set_option linter.unusedSimpArgs false
namespace Go.Proofs.YtbbjlfbemibfcaaGreat.book
open Go.RowKit Go.Proofs.YtbbjlfbemibfcaaGreat
open Go.Proofs.YtbbjlfbemibfcaaGreat.order (Or open_ worth oz)
open Go.Proofs.YtbbjlfbemibfcaaGreat.cell (Ce Ex)
set_option maxRecDepth 20000
theorem cell_ok {c:Ce} : cell.right c=decide ((cell.of_ c).2=0):=by
 unfold cell.of_
 cases h:cell.right c<;>simp
section
variable {c:Ce}
theorem of_neg (h:c.b < 0∨c.s < 0∨c.n < 0):cell.of_ c=(xz,1):=if_neg (fun e=>by have:=cell.right_iff.1 e;unfold cell.Rightly at this;omega)
theorem of_add (h:¬ addE c.p c.b=0):cell.of_ c=(xz,1):=if_neg (fun e=>h (addE_iff.2 (by have:=cell.right_iff.1 e;unfold cell.Rightly at this;unfold inI;omega)))
theorem of_sub (h:¬ subE c.s c.p=0):cell.of_ c=(xz,1):=if_neg (fun e=>h (subE_iff.2 (by have:=cell.right_iff.1 e;unfold cell.Rightly at this;unfold inI;omega)))
theorem of_all (h:0≤c.b∧0≤c.s∧0≤c.n) (h1:addE c.p c.b=0) (h2:subE c.s c.p=0):cell.of_ c=(⟨addV c.p c.b,subV c.s c.p,c.n⟩,0):=by
 have h3:=addE_iff.1 h1
 have h4:=subE_iff.1 h2
 unfold addV subV
 rw [if_pos h3,if_pos h4]
 unfold inI at h3 h4
 exact if_pos (cell.right_iff.2 (by unfold cell.Rightly;omega))
end
theorem v_of (c:Ce)  (hc:c.fine) (w:World):Calls Tryz.prog 93 #[.agg (cell.cc c)] w fun e w'=>e = .returned (.tuple #[.agg (cell.xc (cell.of_ c).1),.int .i64 (cell.of_ c).2])∧Below w.heap.size w w' :=
 calls_by (fn:=Tryz.f93) (r:=.tuple #[.agg (cell.xc (cell.of_ c).1),.int .i64 (cell.of_ c).2]) (t:=.s (.k (.k .z)) (.k (.s (.k .z) (.k (.s .z (.c (.tuple #[.int .i64 (addV c.p c.b),.int .i64 (addE c.p c.b)]) (.s .z (.c (.tuple #[.int .i64 (subV c.s c.p),.int .i64 (subE c.s c.p)]) (.s .z .z))))))))) (X :=
 let k1:Array Value:=#[.agg (cell.xc (cell.of_ c).1),.int .i64 (cell.of_ c).2];let k0:=(.tuple #[.agg (cell.xc xz),.int .i64 1]:Value) = .tuple k1;let k2 := !decide ((addE c.p c.b)=0);let k3 := !decide ((subE c.s c.p)=0); ∀ g0:Nat,∀ g1:Nat,((decide (c.b < 0))=true→k0)∧((decide (c.b < 0))=false→((decide (c.s < 0))=true→k0)∧((decide (c.s < 0))=false→((decide (c.n < 0))=true→k0)∧((decide (c.n < 0))=false→Gives Tryz.prog w [] 95 #[.int .i64 c.p,.int .i64 c.b] (.tuple #[.int .i64 (addV c.p c.b),.int .i64 (addE c.p c.b)])∧(k2=true→k0)∧(k2=false→Gives Tryz.prog w [] 115 #[.int .i64 c.s,.int .i64 c.p] (.tuple #[.int .i64 (subV c.s c.p),.int .i64 (subE c.s c.p)])∧(k3=true→k0)∧(k3=false→((.tuple #[.agg #[.int .i64 (addV c.p c.b),.int .i64 (subV c.s c.p),.int .i64 c.n],.int .i64 0]:Value) = .tuple k1))))))) Tryz.func93 (by kernel_rfl)
 (fun g0=>fun g1=>⟨fun h1=>have h1:c.b < 0:=(by simpa using h1)
(by rw [of_neg (by omega)]<;>rfl),
 fun h1=>have h1:¬ c.b < 0:=(by simpa using h1)
⟨fun h2=>have h2:c.s < 0:=(by simpa using h2)
(by rw [of_neg (by omega)]<;>rfl),
 fun h2=>have h2:¬ c.s < 0:=(by simpa using h2)
⟨fun h3=>have h3:c.n < 0:=(by simpa using h3)
(by rw [of_neg (by omega)]<;>rfl),
 fun h3=>have h3:¬ c.n < 0:=(by simpa using h3)
⟨n_add hc.1 hc.2.1,⟨fun h4=>have h4:¬ (addE c.p c.b)=0:=(by simpa using h4)
(by rw [of_add h4]<;>rfl),
 fun h4=>have h4:(addE c.p c.b)=0:=(by simpa using h4)
⟨n_sub hc.2.2.1 hc.1,⟨fun h5=>have h5:¬ (subE c.s c.p)=0:=(by simpa using h5)
(by rw [of_sub h5]<;>rfl),
 fun h5=>have h5:(subE c.s c.p)=0:=(by simpa using h5)
(by rw [of_all (by omega) h4 h5]<;>rfl)⟩⟩⟩⟩⟩⟩⟩)
theorem v_cright (c:Ce)  (hc:c.fine) (w:World):Calls Tryz.prog 69 #[.agg (cell.cc c)] w fun e w'=>e = .returned (.bool (cell.right c))∧Below w.heap.size w w' :=
 calls_by (fn:=Tryz.f69) (r:=.bool (cell.right c)) (t:=.c (.tuple #[.agg #[.int .i64 (((cell.of_ c).1).l),.int .i64 (((cell.of_ c).1).s),.int .i64 (((cell.of_ c).1).n)],.int .i64 ((cell.of_ c).2)]) (.s .z .z)) (X :=
 let k0:=decide (((cell.of_ c).2)=0);let k1:=(cell.of_ c).1; ∀ g0:Nat,Gives Tryz.prog w [] 93 #[.agg (cell.cc c)] (.tuple #[.agg #[.int .i64 (k1.l),.int .i64 (k1.s),.int .i64 (k1.n)],.int .i64 ((cell.of_ c).2)])∧∀ g1:Nat,(k0=true→((.bool true:Value) = .bool (cell.right c)))∧(k0=false→((.bool false:Value) = .bool (cell.right c)))) Tryz.func69 (by kernel_rfl)
 (fun g0=>⟨gives (v_of c hc),fun g1=>⟨fun h1=>have h1:((cell.of_ c).2)=0:=(by simpa using h1)
(by rw [cell_ok];simp [h1]),
 fun h1=>have h1:¬ ((cell.of_ c).2)=0:=(by simpa using h1)
(by rw [cell_ok];simp [h1])⟩⟩)
theorem v_lright (l:Ex)  (w:World):Calls Tryz.prog 47 #[.agg (cell.xc l)] w fun e w'=>e = .returned (.bool (limit.right l))∧Below w.heap.size w w' :=
 calls_by (fn:=Tryz.f47) (r:=.bool (limit.right l)) (t:=.s (.k (.s (.k (.s .z .z)) (.k .z))) (.k (.k .z))) (X :=
 let k0:=(.bool false:Value) = .bool (limit.right l); ∀ g0:Nat,((decide (l.l ≥ 0))=true→((decide (l.s ≥ 0))=true→((decide (l.n ≥ 0))=true→((.bool true:Value) = .bool (limit.right l)))∧((decide (l.n ≥ 0))=false→k0))∧((decide (l.s ≥ 0))=false→k0))∧((decide (l.l ≥ 0))=false→k0)) Tryz.func47 (by kernel_rfl)
 (fun g0=>⟨fun h1=>have h1:¬ l.l < 0:=(by simpa using h1)
⟨fun h2=>have h2:¬ l.s < 0:=(by simpa using h2)
⟨fun h3=>have h3:¬ l.n < 0:=(by simpa using h3)
(vt (by omega)),
 fun h3=>have h3:l.n < 0:=(by simpa using h3)
(vf (by omega))⟩,
 fun h2=>have h2:l.s < 0:=(by simpa using h2)
(vf (by omega))⟩,
 fun h1=>have h1:l.l < 0:=(by simpa using h1)
(vf (by omega))⟩)
theorem v_cap (a b c:Int)  (w:World):Calls Tryz.prog 126 #[.int .i64 a,.int .i64 b,.int .i64 c] w fun e w'=>e = .returned (.bool (limit.cap a b c))∧Below w.heap.size w w' :=
 calls_by (fn:=Tryz.f126) (r:=.bool (limit.cap a b c)) (t:=.s (.k (.s .z .z)) (.k .z)) (X :=
 let k0:=(.bool false:Value) = .bool (limit.cap a b c);((decide (b > a))=true→((decide (b > c))=true→((.bool true:Value) = .bool (limit.cap a b c)))∧((decide (b > c))=false→k0))∧((decide (b > a))=false→k0)) Tryz.func126 (by kernel_rfl)
 (⟨fun h1=>have h1:a < b:=(by simpa using h1)
⟨fun h2=>have h2:c < b:=(by simpa using h2)
(vt (by omega)),
 fun h2=>have h2:¬ c < b:=(by simpa using h2)
(vf (by omega))⟩,
 fun h1=>have h1:¬ a < b:=(by simpa using h1)
(vf (by omega))⟩)
theorem v_against (x y l:Ex)  (w:World):Calls Tryz.prog 125 #[.agg (cell.xc x),.agg (cell.xc y),.agg (cell.xc l)] w fun e w'=>e = .returned (.bool (limit.against x y l))∧Below w.heap.size w w' :=
 calls_by (fn:=Tryz.f125) (r:=.bool (limit.against x y l)) (t:=.cs (limit.cap x.l y.l l.l) (.k (.k .z)) (.k (.cs (limit.cap x.s y.s l.s) (.k .z) (.k (.cs (limit.cap x.n y.n l.n) .z .z))))) (X :=
 let k0:=(.bool true:Value) = .bool (limit.against x y l);let k1:=limit.cap x.l y.l l.l;let k2:=limit.cap x.s y.s l.s;let k3:=limit.cap x.n y.n l.n; ∀ g0:Nat,∀ g1:Nat,∀ g2:Nat,Gives Tryz.prog w [] 126 #[.int .i64 x.l,.int .i64 y.l,.int .i64 l.l] (.bool k1)∧(k1=true→k0)∧(k1=false→Gives Tryz.prog w [] 126 #[.int .i64 x.s,.int .i64 y.s,.int .i64 l.s] (.bool k2)∧(k2=true→k0)∧(k2=false→Gives Tryz.prog w [] 126 #[.int .i64 x.n,.int .i64 y.n,.int .i64 l.n] (.bool k3)∧(k3=true→k0)∧(k3=false→((.bool false:Value) = .bool (limit.against x y l)))))) Tryz.func125 (by kernel_rfl)
 (fun g0=>fun g1=>fun g2=>⟨gives (v_cap x.l y.l l.l),fun h1=>(by unfold limit.against;simp [h1]),
 fun h1=>⟨gives (v_cap x.s y.s l.s),fun h2=>(by unfold limit.against;simp [h1,h2]),
 fun h2=>⟨gives (v_cap x.n y.n l.n),fun h3=>(by unfold limit.against;simp [h1,h2,h3]),
 fun h3=>(by unfold limit.against;simp [h1,h2,h3])⟩⟩⟩)
section
variable {w0:World} {D:List Fact}
theorem l_cright {c:Ce} (hf:c.fine):Gives Tryz.prog w0 D 69 #[.agg (cell.cc c)] (.bool (cell.right c)):=gives (v_cright c hf)
theorem l_oright {o:Or} (hf:o.fine):Gives Tryz.prog w0 D 67 #[.agg (order.oc o)] (.bool (order.right o)):=gives (v_oright o)
theorem l_worth {o:Or} (hf:o.fine):Gives Tryz.prog w0 D 116 #[.agg (order.oc o)] (.tuple #[.int .i64 (worth o).1,.int .i64 (worth o).2]):=gives (v_worth o hf)
theorem l_open {o:Or} (hf:o.fine):Gives Tryz.prog w0 D 117 #[.agg (order.oc o)] (.int .i64 (open_ o)):=gives (v_open o hf)
end
end Go.Proofs.YtbbjlfbemibfcaaGreat.book
