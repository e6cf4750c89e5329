/-
  Vc
-/
import Derived.Test.YtbbjlfbemibfcaaGreatMrr05
import Derived.OrdersHeld
import Derived.Deep.RegionHeld
import Derived.Deep.MidRow
import Derived.Below
set_option linter.unusedVariables false
set_option linter.unusedSimpArgs false
namespace Go.Proofs.YtbbjlfbemibfcaaGreat
set_option maxRecDepth 20000
open Go.RowKit
inductive Kind
 |own (T:TypeId)
 |low
 |dyn
structure jv where
 g:Nat
 o:Nat
 cells:Array Value
 own:Kind
structure Fact where
 F:World→Prop
 S:Nat→Prop
def All:List Fact→World→Prop
 | [],_=>True
 |f :: l,w=>f.F w∧All l w
def Stable (f:Fact):Prop := ∀ w w' : World,(∀ k,f.S k→w'.heap[k]?=w.heap[k]?)→f.F w→f.F w'
structure xq (X:Nat→Prop) (lo:Nat) (fs:List Fact) (w:World):Prop where
 all:All fs w
 ni:∀ f ∈ fs,∀ k,f.S k→(X k∨lo≤k)∧k < w.heap.size
 apart:fs.Pairwise fun f g => ∀ k,f.S k→¬ g.S k
 stable:∀ f ∈ fs,Stable f
structure Dk (X:Nat→Prop) (w w' : World):Prop where
 os:w'.os=w.os
 tape:w'.tape=w.tape
 output:w'.output=w.output
 size:w.heap.size≤w'.heap.size
 block:∀ k,k < w.heap.size→¬ X k→w'.heap[k]?=w.heap[k]?
def dw (g:Nat) (cs:Array Value) (e:TypeId):Fact:=⟨fun w=>w.heap[g]?=some (.cells cs e (0,0)),fun k=>k=g⟩
def anyS (D:List Fact) (k:Nat):Prop := ∃ f ∈ D,f.S k
inductive Tree:Type 1
  |z
  |k (t:Tree)
 |s (t f:Tree)
 |m (b:Bool) (t:Tree)
 |e (r:Value) (t:Tree)
 |x (r:Value) (t:Tree)
 |xs (b:Bool) (t f:Tree)
 |p (g o:Nat) (cells:Array Value) (t:Tree)
 |q (g o:Nat) (cells:Array Value) (t:Tree)
  |c (r:Value) (t:Tree)
 |cs (b:Bool) (t f:Tree)
 |cm (α:Type) (r:α→Value) (fs:α→List Fact) (t:α→Tree)
  |cB (id:Nat) (r:Value) (t:Tree)
  |cD (id:Option Nat) (α:Type) (r:α→Value) (cs:α→Array Value) (fs:α→List Fact) (t:α→Tree)
  |w (α:Type) (del:Option Nat) (r:α→Value) (fs:α→List Fact) (t:α→Tree)
  |o (mx:List Nat) (t:Tree)
 |ow (mx:List Nat) (D:List Fact) (t:Tree)
  |gs (b:Bool) (t f:Tree)
  |rel (id:Nat) (t:Nat→Tree)
  |now (r:Value) (t:Tree)
  |two (t f:Tree)
 |three (t f u:Tree)
  |l (α:Type) (set:α→List (Nat × Value × Option (Nat × Nat))) (mem:α→List (Nat × Array Value)) (keep:List Nat) (pre:List Fact) (dyn:α→List Fact) (I:α→Prop) (μ:α→Nat) (x0:α) (t:α→Tree)
  |j (n:Nat) (α:Type) (set:α→List (Nat × Value × Option (Nat × Nat))) (mem:α→List (Nat × Array Value)) (keep:List Nat) (dyn:α→List Fact) (I:α→Prop) (ext:α→List (Nat × jv)) (nx:Nat) (t:Tree) (u:α→Tree)
structure og where
 act:Act
 tags:List (Nat × Option (Nat × Nat))
 blks:List (Nat × jv)
 wu:Nat
 dyn:List Fact
def Jc:List (Nat × Option (Nat × Nat))→Nat→Option (Nat × Nat)
 | [],_=>none
 |(a,v) :: l,t=>bif Nat.beq a t then v else Jc l t
def o9:List (Nat × jv)→Nat→Option jv
 | [],_=>none
 |(a,v) :: l,t=>bif Nat.beq a t then some v else o9 l t
def setB:List (Nat × jv)→Nat→Array Value→List (Nat × jv)
 | [],_,_=>[]
 |(a,v) :: l,t,cs=>bif Nat.beq a t then (a,{ v with cells:=cs }) :: l else (a,v) :: setB l t cs
def og.tag (s:og):Operand→Option (Nat × Nat)
 | .tmp t=>Jc s.tags t
 | _=>none
def og.put (s:og) (dst:Option Tmp) (v:Value) (g:Option (Nat × Nat)):og :=
 { s with act:=s.act.put dst v,tags:=match dst with | some d=>(d,bif Nat.blt d s.act.tmps.size then g else none) :: s.tags | none=>s.tags }
def still {α:Type} (P:Program):Sem α→Option α
 | .pure a=>some a
 | .program k=>still P (k P)
 | .mark _ k=>still P k
 | _=>none
theorem qed {α:Type} {P:Program} : ∀ {s:Sem α} {a:α},still P s=some a→∀ w,s.run P w = .ok a w
 | .pure a,b,h,w=>by simp only [still,Option.some.injEq] at h;subst h;rfl
 | .program k,b,h,w=>by simp only [still] at h;simp only [Sem.run];exact qed h w
 | .mark _ k,b,h,w=>by simp only [still] at h;simp only [Sem.run];exact qed h w
 | .load ..,_,h,_=>by simp [still] at h
 | .store ..,_,h,_=>by simp [still] at h
 | .new ..,_,h,_=>by simp [still] at h
 | .shape ..,_,h,_=>by simp [still] at h
 | .freeze ..,_,h,_=>by simp [still] at h
 | .frozen ..,_,h,_=>by simp [still] at h
 | .getObj ..,_,h,_=>by simp [still] at h
 | .setObj ..,_,h,_=>by simp [still] at h
 | .choose ..,_,h,_=>by simp [still] at h
 | .sys ..,_,h,_=>by simp [still] at h
 | .halt ..,_,h,_=>by simp [still] at h
inductive Dl
 |val (v:Value) (g:Option (Nat × Nat))
 |ask (v:Option Value)
 |new (T:TypeId) (cells:Array Value)
 |Ya (id off:Nat) (v:Value)
 |ent (f:FuncId) (args:Array Value)
 |mem
 |lod (T:TypeId) (v:Value)
 |bad
def qom (P:Program) (b:jv) (T:TypeId) (off:Nat):Option Value :=
 match P.underlying T,(P.info? T).map (·.size) with
 |some d,some n=>bif d.isRow then (bif Nat.ble (off+n) b.cells.size then some (.agg (b.cells.toList.drop off |>.take n).toArray) else none) else b.cells[off]?
 | _,_=>none
def qno (P:Program) (T:TypeId) (f:Nat):Option Nat :=
 match P.underlying T with
 |some (.struct fs)=>match fs[f]? with
  |some fd=>match (P.info? fd.type).map (·.size) with
   |some (_+1)=>some fd.offset
   | _=>none
  |none=>none
 | _=>none
def asking:Op→Bool
 | .binOp .. | .slice .. | .index .. | .indexAddr .. | .convert ..=>true
 | _=>false
def isBool:Value→Bool
 | .bool _=>true
 | _=>false
def Yb:Op→Bool
 | .extract .. | .field ..=>true
 | _=>false
def Yc:Op→Bool
 | .call _ | .buildSlice .. | .makeSlice ..=>true
 | _=>false
def Yd:Op→Bool
 | .call ⟨.builtin .append,_,_⟩ | .call ⟨.builtin .copy,_,_⟩ | .call ⟨.builtin .clear,_,_⟩ | .buildSlice .. | .makeSlice ..=>true
 | _=>false
def qx9 (P:Program) (s:og) (o:Oper):Option Value :=
 match still P (execOp s.act.eval o) with
 |some (.value v)=>some v
 | _=>none
def Eb (P:Program) (s:og) (o:Oper):Dl :=
 match o.op with
 | .move x=>match s.tag x with
  |some g=>.val (s.act.eval x) (some g)
  |none=>match still P (execOp s.act.eval o) with
   |some (.value v)=>bif isBool v then .ask (some v) else .val v none
   | _=>.bad
 | .assign x | .nilCheck x=>match s.tag x with
  |some g=>.val (s.act.eval x) (some g)
  |none=>match still P (execOp s.act.eval o) with
   |some (.value v)=>.val v none
   | _=>.bad
 | .box T x=>.new T (s.act.eval x).cells
 | .alloc T=>match still P (zeroValue T) with
  |some v=>.new T v.cells
  |none=>.bad
 | .load T x=>match s.tag x with
  |some (id,off)=>match o9 s.blks id with
   |some b=>match qom P b T off with
    |some v=>bif isBool v then .ask (some v) else .val v none
    |none=>.bad
   |none=>.bad
  |none=>.lod T (s.act.eval x)
 | .store T x y=>match s.tag x with
  |some (id,off)=>bif ((P.info? T).map (·.size) == some (s.act.eval y).cells.size) && (s.act.eval y).cells.all (·.oneCell') then .Ya id off (s.act.eval y) else .bad
  |none=>.mem
 | .fieldAddr T x f=>match s.tag x with
  |some (id,off)=>match o9 s.blks id,qno P T f with
   |some b,some k=>.val (.pointer (some ⟨b.g,b.o+(off+k),none⟩)) (some (id,off+k))
   | _,_=>.bad
  |none=>match still P (execOp s.act.eval o) with
   |some (.value v)=>.val v none
   | _=>.bad
 |op=>bif asking op then .ask (qx9 P s o) else bif Yd op then .mem else match still P (execOp s.act.eval o) with
  |some (.value v)=>bif Yb op && isBool v then .ask (some v) else .val v none
  |some (.enter f args)=>.ent f args
  | _=>bif Yc op then .mem else .bad
section
variable (P:Program) (w0:World)
def iq (D:List Fact) (f:FuncId) (args:Array Value) (r:Value):Prop :=
 ∀ w,Below w0.heap.size w0 w→All D w→Calls P f args w fun e w'=>e = .returned r∧Below w.heap.size w w'
def qg (D:List Fact) (f:FuncId) (args:Array Value) (α:Type) (r:α→Value) (fs:α→List Fact):Prop :=
 ∀ w,Below w0.heap.size w0 w→All D w→Calls P f args w fun e w' => ∃ x,e = .returned (r x)∧Below w.heap.size w w'∧xq (fun _=>False) w.heap.size (fs x) w'
def qm (D:List Fact) (f:FuncId) (args:Array Value) (α:Type) (r:α→Value) (fs:α→List Fact):Prop :=
 ∀ w,Below w0.heap.size w0 w→All D w→(∀ f ∈ D,Stable f)→(D.Pairwise fun f g => ∀ k,f.S k→¬ g.S k)→(∀ f ∈ D,∀ k,f.S k→w0.heap.size≤k∧k < w.heap.size) →
  Calls P f args w fun e w' => ∃ x,e = .returned (r x)∧Below w0.heap.size w0 w'∧(∀ k,w0.heap.size≤k→k < w.heap.size→¬ anyS D k→w'.heap[k]?=w.heap[k]?)∧xq (anyS D) w.heap.size (fs x) w'
def jd (D:List Fact) (m:Sem Value) (r:Value):Prop :=
 ∀ w,Below w0.heap.size w0 w→All D w→m.run P w = .ok r w
def o7 (D:List Fact) (g o:Nat) (cells:Array Value):Prop :=
 ∀ w,Below w0.heap.size w0 w→All D w→∀ (i:Nat) (v:Value),cells[i]?=some v→w.cell? ⟨g,o+i,none⟩=some v
def qp (D' D:List Fact):Prop := ∀ w,Below w0.heap.size w0 w→All D' w→All D w
def xg (D fs:List Fact):Prop := ∀ w,Below w0.heap.size w0 w→All D w→xq (fun _=>False) w.heap.size fs w
def jw (D:List Fact) (m:Sem Value) (X:Nat→Prop) (α:Type) (r:α→Value) (fs:α→List Fact):Prop :=
 ∀ w,Below w0.heap.size w0 w→All D w→∃ x w',m.run P w = .ok (r x) w'∧Dk X w w'∧xq X w.heap.size (fs x) w'
def Hu (D:List Fact) (m:Sem Unit) (X:Nat→Prop) (α:Type) (r:α→Value) (fs:α→List Fact):Prop :=
 ∀ w,Below w0.heap.size w0 w→All D w→∃ x w',m.run P w = .ok () w'∧r x=undef∧Dk X w w'∧xq X w.heap.size (fs x) w'
def q4b (s:og) (o:Oper):Option (Sem Value) :=
 match o.op with
 | .binOp op T x y _=>some (do eqGuard op T x y (s.act.eval x) (s.act.eval y);binOp op T (s.act.eval x) (s.act.eval y))
 | .slice T x lo hi mx=>some (Instr.sliceAt T (s.act.eval x) (lo.map s.act.eval) (hi.map s.act.eval) (mx.map s.act.eval))
 | .index T x ix=>some (Instr.index T (s.act.eval x) (s.act.eval ix))
 | .indexAddr T x ix=>some (Instr.indexAt T (s.act.eval x) (s.act.eval ix))
 | .convert a b x=>some (convert a b (s.act.eval x))
 | _=>none
def Wv (D:List Fact) (s:og) (o:Oper) (r:Value):Prop :=
 match q4b s o with
 |some m=>jd P w0 D m r
 |none=>False
def qwx (D:List Fact) (s:og) (o:Oper) (X:Nat→Prop) (α:Type) (r:α→Value) (fs:α→List Fact):Prop :=
 match o.op with
 | .buildSlice T n parts=>jw P w0 D (Instr.buildSlice T n (parts.map fun (i,x)=>(i,s.act.eval x))) X α r fs
 | .makeSlice T l c=>jw P w0 D (Instr.makeSlice T (s.act.eval l) (s.act.eval c)) X α r fs
 | .store T a x=>Hu P w0 D (Instr.storeAt T (s.act.eval a) (s.act.eval x)) X α r fs
 | .call ⟨.builtin .append,args,ts⟩=>jw P w0 D (Builtin.append_ ts o.type (args.map s.act.eval)) X α r fs
 | .call ⟨.builtin .copy,args,ts⟩=>jw P w0 D (Builtin.copy_ ts o.type (args.map s.act.eval)) X α r fs
 | .call ⟨.builtin .clear,args,ts⟩=>jw P w0 D (Builtin.clear_ ts o.type (args.map s.act.eval)) X α r fs
 | _=>False
def Ye (D:List Fact) (s:og) (o:Oper) (v:Option Value) (t:Tree) (K:og→Tree→Prop):Prop :=
 match t,v with
 | .k t,some v=>K (s.put o.dst v none) t
 | .s t f,some (.bool b)=>(b=true→K (s.put o.dst (.bool true) none) t)∧(b=false→K (s.put o.dst (.bool false) none) f)
 | .m b t,some (.bool b')=>b'=b∧K (s.put o.dst (.bool b) none) t
 | .e r t,some v=>v=r∧K (s.put o.dst r none) t
 | .x r t,_=>Wv P w0 D s o r∧K (s.put o.dst r none) t
 | .xs b t f,_=>Wv P w0 D s o (.bool b)∧(b=true→K (s.put o.dst (.bool true) none) t)∧(b=false→K (s.put o.dst (.bool false) none) f)
 | .p g off cells t,_=>Wv P w0 D s o (.pointer (some ⟨g,off,none⟩))∧o7 w0 [] g off cells ∧
   K ({ s with blks:=(s.wu,⟨g,off,cells,.low⟩) :: s.blks,wu:=s.wu+1 }.put o.dst (.pointer (some ⟨g,off,none⟩)) (some (s.wu,0))) t
 | .q g off cells t,_=>Wv P w0 D s o (.pointer (some ⟨g,off,none⟩))∧o7 w0 D g off cells ∧
   K ({ s with blks:=(s.wu,⟨g,off,cells,.dyn⟩) :: s.blks,wu:=s.wu+1 }.put o.dst (.pointer (some ⟨g,off,none⟩)) (some (s.wu,0))) t
 | _,_=>False
def delS (D:List Fact):Option Nat→Nat→Prop
 |none=>fun _=>False
 |some j=>match D[j]? with
  |some f=>f.S
  |none=>fun _=>False
def Dn (l:List (Nat × jv)):List (Nat × jv):=l.filter fun x=>match x.2.own with | .dyn=>false | _=>true
def Wx (bl:List (Nat × jv)):Option (Nat × Nat)→Option (Nat × Nat)
 |some g=>match o9 bl g.1 with
  |some _=>some g
  |none=>none
 |none=>none
def A8 (s:og):Option Nat→og
 |none=>s
 |some j=>{ s with dyn:=s.dyn.eraseIdx j,blks:=Dn s.blks,tags:=s.tags.map fun x=>(x.1,Wx (Dn s.blks) x.2) }
def zce (s:og) (o:Oper) (f:FuncId) (args:Array Value) (t:Tree) (K:og→Tree→Prop):Prop :=
 match t with
 | .c r t=>iq P w0 s.dyn f args r∧K (s.put o.dst r none) t
 | .cm α r fs t=>qg P w0 s.dyn f args α r fs∧∀ x,K ({ s with dyn:=fs x++s.dyn }.put o.dst (r x) none) (t x)
 | .cs b t f'=>iq P w0 s.dyn f args (.bool b)∧(b=true→K (s.put o.dst (.bool true) none) t)∧(b=false→K (s.put o.dst (.bool false) none) f')
 | .cB id r t=>match o9 s.blks id with
  |some ⟨g,_,cs,.own T⟩=>iq P w0 (s.dyn++[dw g cs T]) f args r∧K (s.put o.dst r none) t
  | _=>False
 | .cD none α r _ fs t=>qm P w0 s.dyn f args α r fs∧∀ x,K ({ A8 s (some s.dyn.length) with dyn:=fs x }.put o.dst (r x) none) (t x)
 | .cD (some id) α r cs fs t=>match o9 s.blks id with
  |some ⟨g,_,c0,.own T⟩=>qm P w0 (dw g c0 T :: s.dyn) f args α r (fun x=>dw g (cs x) T :: fs x)∧∀ x,K ({ A8 s (some s.dyn.length) with dyn:=fs x,blks:=setB (Dn s.blks) id (cs x) }.put o.dst (r x) none) (t x)
  | _=>False
 | _=>False
def newV (s:og) (o:Oper) (T:TypeId) (cells:Array Value) (t:Tree) (K:og→Tree→Prop):Prop :=
 ∀ g:Nat,K ({ s with blks:=(s.wu,⟨g,0,cells,.own T⟩) :: s.blks,wu:=s.wu+1 }.put o.dst (.pointer (some ⟨g,0,none⟩)) (some (s.wu,0))) t
def zcf (s:og) (o:Oper) (id off:Nat) (v:Value) (t:Tree) (K:og→Tree→Prop):Prop :=
 match o9 s.blks id with
 |some ⟨_,_,cs,.own _⟩=>bif Nat.ble (off+v.cells.size) cs.size then K ({ s with blks:=setB s.blks id (cs.toList.take off++v.cells.toList++cs.toList.drop (off+v.cells.size)).toArray }.put o.dst undef none) t else False
 | _=>False
def zcg (s:og) (o:Oper) (t:Tree) (K:og→Tree→Prop):Prop :=
 match t with
 | .w α del r fs t=>qwx P w0 s.dyn s o (delS s.dyn del) α r fs∧∀ x,K ({ A8 s del with dyn:=fs x++(A8 s del).dyn }.put o.dst (r x) none) (t x)
 | _=>False
def zch (s:og) (o:Oper) (T:TypeId) (v:Value) (t:Tree) (K:og→Tree→Prop):Prop :=
 match t with
 | .x r t=>jd P w0 s.dyn (Instr.loadAt T v) r∧K (s.put o.dst r none) t
 | .xs b t f=>jd P w0 s.dyn (Instr.loadAt T v) (.bool b)∧(b=true→K (s.put o.dst (.bool true) none) t)∧(b=false→K (s.put o.dst (.bool false) none) f)
 | _=>False
def Nl (D:List Fact) (s:og) (o:Oper) (t:Tree) (K:og→Tree→Prop):Prop :=
 match Eb P s o with
 | .val v g=>K (s.put o.dst v g) t
 | .ask v=>Ye P w0 D s o v t K
 | .new T cells=>newV s o T cells t K
 | .Ya id off v=>zcf s o id off v t K
 | .ent f args=>zce P w0 s o f args t K
 | .mem=>zcg P w0 s o t K
 | .lod T v=>zch P w0 s o T v t K
 | .bad=>False
def opsV (ops:Array Oper):List Oper→(og→Tree→Prop)→og→Tree→Prop
 | [],K,s,t=>K s t
 |o :: rest,K,s,t=>match Region.wanted o (yielded ops s.act.tmps) with
  |true=>Nl P w0 s.dyn s o t (opsV ops rest K)
  |false=>opsV ops rest K (s.put o.dst undef none) t
def Q7 (s:og) (n1:Nat) (mx:List Nat) (id:Nat):Bool :=
 match o9 s.blks id with
 |some b=>match b.own with
  | .own _=>Nat.blt id n1 && !mx.contains id
  | _=>true
 |none=>false
def early (P:Program) (s:og) (o:Oper) (n1:Nat) (mx:List Nat):Bool :=
 match o.op with
 | .load _ x=>match s.tag x with
  |some (id,_)=>Q7 s n1 mx id
  |none=>false
 | _=>match Eb P s o with
  | .val _ _=>true
  | .ask _=>true
  | _=>false
def first (P:Program) (ops:Array Oper) (s:og) (n1:Nat) (listed:Array Bool) (mx:List Nat):List Nat→Option (Nat × Oper × Bool)
 | []=>none
 |i :: l=>match ops[i]? with
  |none=>none
  |some o=>bif Region.free .any ops listed i then (match Region.wanted o (yielded ops s.act.tmps) with
    |true=>bif early P s o n1 mx then some (i,o,true) else first P ops s n1 listed mx l
    |false=>some (i,o,false)) else first P ops s n1 listed mx l
def Vb (D:List Fact) (ops:Array Oper) (n1:Nat) (mx:List Nat) (s:og) (o:Oper) (t:Tree) (K:og→Tree→Prop):Prop :=
 match Region.wanted o (yielded ops s.act.tmps) with
 |true=>match Eb P s o with
  | .Ya id _ _=>bif mx.contains id || Nat.ble n1 id then Nl P w0 D s o t K else False
  | .ent _ _=>match t with
   | .cD none _ _ _ fs _=>(∀ x,qp w0 (fs x) D)∧Nl P w0 D s o t K
   | .cD (some id) _ _ _ fs _=>bif mx.contains id || Nat.ble n1 id then (∀ x,qp w0 (fs x) D)∧Nl P w0 D s o t K else False
   | _=>Nl P w0 D s o t K
  | .mem=>match t with
   | .w _ none _ _ _=>Nl P w0 D s o t K
   | .w _ (some j) _ fs _=>(∀ x,qp w0 (fs x++(A8 s (some j)).dyn) D)∧Nl P w0 D s o t K
   | _=>False
  | _=>Nl P w0 D s o t K
 |false=>False
def Ep (D:List Fact) (ops:Array Oper) (n1:Nat) (mx:List Nat) (K:og→Tree→Prop):Nat→Array Bool→og→Tree→Prop
 | 0,listed,s,t=>match Region.ready .any ops listed with
  | []=>K s t
  | _=>False
 |n + 1,listed,s,t=>match Region.ready .any ops listed with
  | []=>K s t
  |r :: rs=>match t with
   | .now v u=>match rs,ops[r]? with
    | [],some o=>Region.wanted o (yielded ops s.act.tmps)=true∧Wv P w0 s.dyn s o v∧Ep D ops n1 mx K n (listed.setIfInBounds r true) (s.put o.dst v none) u
    | _,_=>False
   |t => match first P ops s n1 listed mx (r :: rs) with
    |some (i,o,true)=>Nl P w0 D s o t (Ep D ops n1 mx K n (listed.setIfInBounds i true))
    |some (i,o,false)=>Ep D ops n1 mx K n (listed.setIfInBounds i true) (s.put o.dst undef none) t
    |none=>match rs,t,ops[r]? with
     | [],t,some o=>Vb P w0 D ops n1 mx s o t (Ep D ops n1 mx K n (listed.setIfInBounds r true))
     | [r2],.two t f,some o=>match ops[r2]? with
      |some o2=>Vb P w0 D ops n1 mx s o t (Ep D ops n1 mx K n (listed.setIfInBounds r true))∧Vb P w0 D ops n1 mx s o2 f (Ep D ops n1 mx K n (listed.setIfInBounds r2 true))
      |none=>False
     | [r2,r3],.three t f u,some o=>match ops[r2]?,ops[r3]? with
      |some o2,some o3=>Vb P w0 D ops n1 mx s o t (Ep D ops n1 mx K n (listed.setIfInBounds r true))∧Vb P w0 D ops n1 mx s o2 f (Ep D ops n1 mx K n (listed.setIfInBounds r2 true))∧Vb P w0 D ops n1 mx s o3 u (Ep D ops n1 mx K n (listed.setIfInBounds r3 true))
      | _,_=>False
     | _,_,_=>False
def spread (τ:Nat→Value) (l:List (Nat × Value × Option (Nat × Nat))):Nat→List Value→List Value
 | _,[]=>[]
 |n,_ :: vs=>(match l.find? fun x=>Nat.beq x.1 n with | some x=>x.2.1 | none=>τ n) :: spread τ l (n+1) vs
def Vd (s:og) (keep:List Nat) (m:List (Nat × Array Value)):List (Nat × jv) :=
 (Dn s.blks).filterMap fun x=>match m.find? fun y=>Nat.beq y.1 x.1 with
  |some y=>some (x.1,{ x.2 with cells:=y.2 })
  |none=>bif keep.any (Nat.beq x.1) then some x else none
def O7 (s:og) (τ:Nat→Value) (keep:List Nat) (l:List (Nat × Value × Option (Nat × Nat))) (m:List (Nat × Array Value)) (dyn:List Fact):og :=
 { s with act:={ s.act with tmps:=(spread τ l 0 s.act.tmps.toList).toArray },tags:=l.map (fun x=>(x.1,x.2.2)),blks:=Vd s keep m,dyn:=dyn }
def Q8 (s:og) (l:List (Nat × Value × Option (Nat × Nat))):List (Nat × Value × Option (Nat × Nat)) :=
 l.map fun x=>match x.2.2 with
  |some (id,off)=>match o9 s.blks id with
   |some b=>(x.1,.pointer (some ⟨b.g,b.o+off,none⟩),x.2.2)
   |none=>x
  |none=>x
def iw (D fs:List Fact):Prop :=
 (∀ f ∈ D,Stable f)→(D.Pairwise fun f g => ∀ k,f.S k→¬ g.S k) →
  (∀ f ∈ fs,Stable f)∧(fs.Pairwise fun f g => ∀ k,f.S k→¬ g.S k)∧(∀ f ∈ fs,∀ k,f.S k→∃ g ∈ D,g.S k)∧∀ w,Below w0.heap.size w0 w→All D w→All fs w
def qlt (s s' : og) (keep:List Nat) (l:List (Nat × Value × Option (Nat × Nat))) (m:List (Nat × Array Value)) (dyn:List Fact):Prop :=
 (l.map fun x=>s'.act.tmps.getD x.1 undef)=l.map (fun x=>x.2.1) ∧
 ((Vd s keep m).map fun x=>o9 s'.blks x.1)=((Vd s keep m).map fun x=>some x.2)∧iw w0 s'.dyn dyn
def Zq (s s' : og) (keep:List Nat) (l:List (Nat × Value × Option (Nat × Nat))) (m:List (Nat × Array Value)):Bool :=
 l.all fun x=>match x.2.2 with
  |some g=>(Jc s'.tags x.1 == some g) && (Vd s keep m).any fun y=>Nat.beq y.1 g.1
  |none=>true
def resV (P:Program) (s:og):List ResultVar→Option (List Value)
 | []=>some []
 | .tmp t :: l=>match resV P s l with
  |some vs=>some (s.act.tmps.getD t undef :: vs)
  |none=>none
 | .cell a T :: l=>match Jc s.tags a with
  |some (id,off)=>match o9 s.blks id with
   |some b=>match qom P b T off,resV P s l with
    |some v,some vs=>some (v :: vs)
    | _,_=>none
   |none=>none
  |none=>none
def Zr:List Value→Value
 | [v]=>v
 |vs=>.tuple vs.toArray
def splitV (R:Tree→Prop):Tree→Prop
 | .gs b t f=>(b=true→splitV R t)∧(b=false→splitV R f)
 |t=>R t
def O8 (ops:Array Oper) (d:Bool) (K:Exit→og→Tree→Prop) (s:og) (t:Tree):Prop :=
 match d,t with
 |false,t=>opsV P w0 ops ops.toList (K .normal) s t
 |true,.o mx t=>match P.follows .mixedOrders,Region.noSelect ops with
  |true,true=>Ep P w0 s.dyn ops s.wu mx (K .normal) ops.size (Array.replicate ops.size false) s t
  | _,_=>False
 |true,.ow mx D t=>qp w0 s.dyn D∧match P.follows .mixedOrders,Region.noSelect ops with
  |true,true=>Ep P w0 D ops s.wu mx (K .normal) ops.size (Array.replicate ops.size false) (A8 s (some s.dyn.length)) t
  | _,_=>False
 | _,_=>False
def Np (l:List (Nat × jv)) (id:Nat):List (Nat × jv):=l.filter fun x => !Nat.beq x.1 id
def Ve (s:og) (id:Nat) (f:Fact):og:={ s with dyn:=f :: s.dyn,blks:=Np s.blks id,tags:=s.tags.map fun x=>(x.1,Wx (Np s.blks id) x.2) }
def zcj (R:og→Tree→Prop) (s:og) (t:Tree):Prop :=
 match t with
 | .rel id u=>match o9 s.blks id with
  |some ⟨g,_,cs,.own T⟩=>R (Ve s id (dw g cs T)) (u g)
  | _=>False
 |t=>R s t
def qpp (ops:Array Oper):Bool:=ops.toList.any fun o=>match o.op with
 | .call c=>match c.callee with
  | .builtin _=>false
  | _=>true
 | _=>false
def Jp (s:og) (ext:List (Nat × jv)) (nx:Nat):og:={ s with blks:=ext++s.blks,wu:=nx }
def qrq:List (Nat × jv)→Bool
 | []=>true
 |x :: l=>(l.all fun y => !Nat.beq x.1 y.1) && qrq l
def qwy (s:og) (ext:List (Nat × jv)) (nx:Nat):Bool:=(ext.all fun y=>Nat.ble s.wu y.1 && Nat.blt y.1 nx) && Nat.ble s.wu nx && qrq ext
def qon:Code→Nat
 | .region id _ _=>id
 | .seq a _=>qon a
 | .block _ a=>qon a
 | _=>0
def Jd:Code→(Exit→og→Tree→Prop)→og→Tree→Prop
 | .skip,K,s,t=>K .normal s t
 | .region _ ops d,K,s,t=>zcj (fun s t=>bif qpp ops then splitV (O8 P w0 ops d K s) t else O8 P w0 ops d K s t) s t
 | .seq a b,K,s,t=>match t with
  | .j n _ set mem keep dyn I ext nx t1 u=>bif Nat.beq (qon b) n then Jd a (fun e s' t=>match e with | .normal => ∃ x',I x'∧qlt w0 (Jp s (ext x') nx) s' keep (Q8 (Jp s (ext x') nx) (set x')) (mem x') (dyn x')∧(qwy s (ext x') nx && Zq (Jp s (ext x') nx) s' keep (Q8 (Jp s (ext x') nx) (set x')) (mem x'))=true | e=>K e s' t) s t1 ∧
    ∀ x,I x→∀ τ:Nat→Value,Jd b K (O7 (Jp s (ext x) nx) τ keep (Q8 (Jp s (ext x) nx) (set x)) (mem x) (dyn x)) (u x)
   else Jd a (fun e s t=>match e with | .normal=>Jd b K s t | e=>K e s t) s t
  |t=>Jd a (fun e s t=>match e with | .normal=>Jd b K s t | e=>K e s t) s t
 | .cond c a b,K,s,t=>match s.act.eval c with
  | .bool true=>Jd a K s t
  | .bool false=>Jd b K s t
  | _=>False
 | .block id a,K,s,t=>Jd a (fun e s t=>match e with | .exit id'=>bif Nat.beq id' id then K .normal s t else K e s t | e=>K e s t) s t
 | .exit id,K,s,t=>K (.exit id) s t
 | .ret,K,s,t=>K .ret s t
 | .loop a,K,s,.l α set mem keep pre dyn I μ x0 t=>xg w0 s.dyn pre∧I x0∧qlt w0 s { s with dyn:=pre++s.dyn } keep (Q8 s (set x0)) (mem x0) (dyn x0)∧Zq s s keep (Q8 s (set x0)) (mem x0)=true∧∀ (x:α),I x→∀ τ:Nat→Value,
   Jd a (fun e s' t=>match e with | .normal => ∃ x',I x'∧μ x' < μ x∧qlt w0 s s' keep (Q8 s (set x')) (mem x') (dyn x')∧Zq s s' keep (Q8 s (set x')) (mem x')=true | e=>K e s' t) (O7 s τ keep (Q8 s (set x)) (mem x) (dyn x)) (t x)
 | _,_,_,_=>False
def O9 (fn:Func) (Post:Value→List Fact→Prop):Exit→og→Tree→Prop
 | .normal,s,_ | .ret,s,_=>match s.act.defers,resV P s fn.results.toList with
  | [],some vs=>Post (Zr vs) s.dyn
  | _,_=>False
 | _,_,_=>False
def Pg (fn:Func) (Post:Value→og→Prop):Exit→og→Tree→Prop
 | .normal,s,_ | .ret,s,_=>match s.act.defers,resV P s fn.results.toList with
  | [],some vs=>Post (Zr vs) s
  | _,_=>False
 | _,_,_=>False
def Ph (fn:Func) (args:Array Value) (tags:List (Nat × Option (Nat × Nat))) (blks:List (Nat × jv)) (D:List Fact) (Post:Value→og→Prop) (t:Tree):Prop :=
 match fn.body with
 |some c=>Jd P w0 c (Pg P fn Post) ⟨{ tmps:=args++Array.replicate (fn.ntmps - args.size) undef,defers:=[] },tags,blks,blks.length,D⟩ t
 |none=>False
def Pj (fn:Func) (args:Array Value) (Post:Value→List Fact→Prop) (t:Tree):Prop :=
 match fn.body with
 |some c=>Jd P w0 c (O9 P fn Post) ⟨{ tmps:=args++Array.replicate (fn.ntmps - args.size) undef,defers:=[] },[],[],0,[]⟩ t
 |none=>False
end
theorem dq {p : Prop} [Decidable p] : ((decide p = true) = p) ∧ ((decide p = false) = ¬p) ∧ (((!decide p) = true) = ¬p) ∧ (((!decide p) = false) = p) := by by_cases h : p <;> simp [h]
end Go.Proofs.YtbbjlfbemibfcaaGreat
