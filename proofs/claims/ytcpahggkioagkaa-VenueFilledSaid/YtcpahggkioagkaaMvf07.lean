/-
  Vc
-/
import Derived.Test.YtcpahggkioagkaaMvf06
import Derived.OrdersHeld
import Derived.Deep.RegionHeld
import Derived.Deep.MidRow
import Derived.Below
set_option linter.unusedVariables false
set_option linter.unusedSimpArgs false
namespace Go.Proofs.Ytcpahggkioagkaa
set_option maxRecDepth 20000
open Go.RowKit
inductive Kind
 |own (T:TypeId)
 |low
 |dyn
structure Blk where
 g:Nat
 o:Nat
 cells:Array Value
 own:Kind
structure Fact where
 F:World→Prop
 S:Nat→Prop
def All:List Fact→World→Prop
 | [],_=>True
 |f :: l,w=>f.F w∧All l w
def Stable (f:Fact):Prop := ∀ w w' : World,(∀ k,f.S k→w'.heap[k]?=w.heap[k]?)→f.F w→f.F w'
structure News (X:Nat→Prop) (lo:Nat) (fs:List Fact) (w:World):Prop where
 all:All fs w
 young:∀ f ∈ fs,∀ k,f.S k→(X k∨lo≤k)∧k < w.heap.size
 apart:fs.Pairwise fun f g => ∀ k,f.S k→¬ g.S k
 stable:∀ f ∈ fs,Stable f
structure Frame0 (X:Nat→Prop) (w w' : World):Prop where
 os:w'.os=w.os
 tape:w'.tape=w.tape
 output:w'.output=w.output
 size:w.heap.size≤w'.heap.size
 block:∀ k,k < w.heap.size→¬ X k→w'.heap[k]?=w.heap[k]?
def cellsF (g:Nat) (cs:Array Value) (e:TypeId):Fact:=⟨fun w=>w.heap[g]?=some (.cells cs e (0,0)),fun k=>k=g⟩
def anyS (D:List Fact) (k:Nat):Prop := ∃ f ∈ D,f.S k
inductive Tree:Type 1
  |z
  |k (t:Tree)
 |s (t f:Tree)
 |m (b:Bool) (t:Tree)
 |e (r:Value) (t:Tree)
 |x (r:Value) (t:Tree)
 |xs (b:Bool) (t f:Tree)
 |p (g o:Nat) (cells:Array Value) (t:Tree)
 |q (g o:Nat) (cells:Array Value) (t:Tree)
  |c (r:Value) (t:Tree)
 |cs (b:Bool) (t f:Tree)
 |cm (α:Type) (r:α→Value) (fs:α→List Fact) (t:α→Tree)
  |cB (id:Nat) (r:Value) (t:Tree)
  |cD (id:Option Nat) (α:Type) (r:α→Value) (cs:α→Array Value) (fs:α→List Fact) (t:α→Tree)
  |w (α:Type) (del:Option Nat) (r:α→Value) (fs:α→List Fact) (t:α→Tree)
  |o (mx:List Nat) (t:Tree)
 |ow (mx:List Nat) (D:List Fact) (t:Tree)
  |gs (b:Bool) (t f:Tree)
  |rel (id:Nat) (t:Nat→Tree)
  |now (r:Value) (t:Tree)
  |two (t f:Tree)
 |three (t f u:Tree)
  |l (α:Type) (set:α→List (Nat × Value × Option (Nat × Nat))) (mem:α→List (Nat × Array Value)) (keep:List Nat) (pre:List Fact) (dyn:α→List Fact) (I:α→Prop) (μ:α→Nat) (x0:α) (t:α→Tree)
  |u (n:Nat) (t:Tree)
  |j (n:Nat) (α:Type) (set:α→List (Nat × Value × Option (Nat × Nat))) (mem:α→List (Nat × Array Value)) (keep:List Nat) (dyn:α→List Fact) (I:α→Prop) (ext:α→List (Nat × Blk)) (nx:Nat) (t:Tree) (u:α→Tree)
structure St0 where
 act:Act
 tags:List (Nat × Option (Nat × Nat))
 blks:List (Nat × Blk)
 nxt:Nat
 dyn:List Fact
def findT:List (Nat × Option (Nat × Nat))→Nat→Option (Nat × Nat)
 | [],_=>none
 |(a,v) :: l,t=>bif Nat.beq a t then v else findT l t
def findB:List (Nat × Blk)→Nat→Option Blk
 | [],_=>none
 |(a,v) :: l,t=>bif Nat.beq a t then some v else findB l t
def setB:List (Nat × Blk)→Nat→Array Value→List (Nat × Blk)
 | [],_,_=>[]
 |(a,v) :: l,t,cs=>bif Nat.beq a t then (a,{ v with cells:=cs }) :: l else (a,v) :: setB l t cs
def St0.tag (s:St0):Operand→Option (Nat × Nat)
 | .tmp t=>findT s.tags t
 | _=>none
def St0.put (s:St0) (dst:Option Tmp) (v:Value) (g:Option (Nat × Nat)):St0 :=
 { s with act:=s.act.put dst v,tags:=match dst with | some d=>(d,bif Nat.blt d s.act.tmps.size then g else none) :: s.tags | none=>s.tags }
def still {α:Type} (P:Program):Sem α→Option α
 | .pure a=>some a
 | .program k=>still P (k P)
 | .mark _ k=>still P k
 | _=>none
theorem still_run {α:Type} {P:Program} : ∀ {s:Sem α} {a:α},still P s=some a→∀ w,s.run P w = .ok a w
 | .pure a,b,h,w=>by simp only [still,Option.some.injEq] at h;subst h;rfl
 | .program k,b,h,w=>by simp only [still] at h;simp only [Sem.run];exact still_run h w
 | .mark _ k,b,h,w=>by simp only [still] at h;simp only [Sem.run];exact still_run h w
 | .load ..,_,h,_=>by simp [still] at h
 | .store ..,_,h,_=>by simp [still] at h
 | .new ..,_,h,_=>by simp [still] at h
 | .shape ..,_,h,_=>by simp [still] at h
 | .freeze ..,_,h,_=>by simp [still] at h
 | .frozen ..,_,h,_=>by simp [still] at h
 | .getObj ..,_,h,_=>by simp [still] at h
 | .setObj ..,_,h,_=>by simp [still] at h
 | .choose ..,_,h,_=>by simp [still] at h
 | .sys ..,_,h,_=>by simp [still] at h
 | .halt ..,_,h,_=>by simp [still] at h
inductive OutV
 |val (v:Value) (g:Option (Nat × Nat))
 |ask (v:Option Value)
 |new (T:TypeId) (cells:Array Value)
 |sto (id off:Nat) (v:Value)
 |ent (f:FuncId) (args:Array Value)
 |mem
 |lod (T:TypeId) (v:Value)
 |bad
def loadB (P:Program) (b:Blk) (T:TypeId) (off:Nat):Option Value :=
 match P.underlying T,(P.info? T).map (·.size) with
 |some d,some n=>bif d.isRow then (bif Nat.ble (off+n) b.cells.size then some (.agg (b.cells.toList.drop off |>.take n).toArray) else none) else b.cells[off]?
 | _,_=>none
def fieldOff (P:Program) (T:TypeId) (f:Nat):Option Nat :=
 match P.underlying T with
 |some (.struct fs)=>match fs[f]? with
  |some fd=>match (P.info? fd.type).map (·.size) with
   |some (_+1)=>some fd.offset
   | _=>none
  |none=>none
 | _=>none
def asking:Op→Bool
 | .binOp .. | .slice .. | .index .. | .indexAddr .. | .convert ..=>true
 | _=>false
def isBool:Value→Bool
 | .bool _=>true
 | _=>false
def boolish:Op→Bool
 | .extract .. | .field ..=>true
 | _=>false
def memish:Op→Bool
 | .call _ | .buildSlice .. | .makeSlice ..=>true
 | _=>false
def memNow:Op→Bool
 | .call ⟨.builtin .append,_,_⟩ | .call ⟨.builtin .copy,_,_⟩ | .call ⟨.builtin .clear,_,_⟩ | .buildSlice .. | .makeSlice ..=>true
 | _=>false
def stillV (P:Program) (s:St0) (o:Oper):Option Value :=
 match still P (execOp s.act.eval o) with
 |some (.value v)=>some v
 | _=>none
def outOf (P:Program) (s:St0) (o:Oper):OutV :=
 match o.op with
 | .move x=>match s.tag x with
  |some g=>.val (s.act.eval x) (some g)
  |none=>match still P (execOp s.act.eval o) with
   |some (.value v)=>bif isBool v then .ask (some v) else .val v none
   | _=>.bad
 | .assign x | .nilCheck x=>match s.tag x with
  |some g=>.val (s.act.eval x) (some g)
  |none=>match still P (execOp s.act.eval o) with
   |some (.value v)=>.val v none
   | _=>.bad
 | .box T x=>.new T (s.act.eval x).cells
 | .alloc T=>match still P (zeroValue T) with
  |some v=>.new T v.cells
  |none=>.bad
 | .load T x=>match s.tag x with
  |some (id,off)=>match findB s.blks id with
   |some b=>match loadB P b T off with
    |some v=>bif isBool v then .ask (some v) else .val v none
    |none=>.bad
   |none=>.bad
  |none=>.lod T (s.act.eval x)
 | .store T x y=>match s.tag x with
  |some (id,off)=>bif ((P.info? T).map (·.size) == some (s.act.eval y).cells.size) && (s.act.eval y).cells.all (·.oneCell') then .sto id off (s.act.eval y) else .bad
  |none=>.mem
 | .fieldAddr T x f=>match s.tag x with
  |some (id,off)=>match findB s.blks id,fieldOff P T f with
   |some b,some k=>.val (.pointer (some ⟨b.g,b.o+(off+k),none⟩)) (some (id,off+k))
   | _,_=>.bad
  |none=>match still P (execOp s.act.eval o) with
   |some (.value v)=>.val v none
   | _=>.bad
 |op=>bif asking op then .ask (stillV P s o) else bif memNow op then .mem else match still P (execOp s.act.eval o) with
  |some (.value v)=>bif boolish op && isBool v then .ask (some v) else .val v none
  |some (.enter f args)=>.ent f args
  | _=>bif memish op then .mem else .bad
section
variable (P:Program) (w0:World)
def Gives (D:List Fact) (f:FuncId) (args:Array Value) (r:Value):Prop :=
 ∀ w,Below w0.heap.size w0 w→All D w→Calls P f args w fun e w'=>e = .returned r∧Below w.heap.size w w'
def GivesM (D:List Fact) (f:FuncId) (args:Array Value) (α:Type) (r:α→Value) (fs:α→List Fact):Prop :=
 ∀ w,Below w0.heap.size w0 w→All D w→Calls P f args w fun e w' => ∃ x,e = .returned (r x)∧Below w.heap.size w w'∧News (fun _=>False) w.heap.size (fs x) w'
def GivesD (D:List Fact) (f:FuncId) (args:Array Value) (α:Type) (r:α→Value) (fs:α→List Fact):Prop :=
 ∀ w,Below w0.heap.size w0 w→All D w→(∀ f ∈ D,Stable f)→(D.Pairwise fun f g => ∀ k,f.S k→¬ g.S k)→(∀ f ∈ D,∀ k,f.S k→w0.heap.size≤k∧k < w.heap.size) →
  Calls P f args w fun e w' => ∃ x,e = .returned (r x)∧Below w0.heap.size w0 w'∧(∀ k,w0.heap.size≤k→k < w.heap.size→¬ anyS D k→w'.heap[k]?=w.heap[k]?)∧News (anyS D) w.heap.size (fs x) w'
def Yields0 (D:List Fact) (m:Sem Value) (r:Value):Prop :=
 ∀ w,Below w0.heap.size w0 w→All D w→m.run P w = .ok r w
def Reads0 (D:List Fact) (g o:Nat) (cells:Array Value):Prop :=
 ∀ w,Below w0.heap.size w0 w→All D w→∀ (i:Nat) (v:Value),cells[i]?=some v→w.cell? ⟨g,o+i,none⟩=some v
def Imp (D' D:List Fact):Prop := ∀ w,Below w0.heap.size w0 w→All D' w→All D w
def Brings (D fs:List Fact):Prop := ∀ w,Below w0.heap.size w0 w→All D w→News (fun _=>False) w.heap.size fs w
def StepM (D:List Fact) (m:Sem Value) (X:Nat→Prop) (α:Type) (r:α→Value) (fs:α→List Fact):Prop :=
 ∀ w,Below w0.heap.size w0 w→All D w→∃ x w',m.run P w = .ok (r x) w'∧Frame0 X w w'∧News X w.heap.size (fs x) w'
def StepU (D:List Fact) (m:Sem Unit) (X:Nat→Prop) (α:Type) (r:α→Value) (fs:α→List Fact):Prop :=
 ∀ w,Below w0.heap.size w0 w→All D w→∃ x w',m.run P w = .ok () w'∧r x=undef∧Frame0 X w w'∧News X w.heap.size (fs x) w'
def semOf (s:St0) (o:Oper):Option (Sem Value) :=
 match o.op with
 | .binOp op T x y _=>some (do eqGuard op T x y (s.act.eval x) (s.act.eval y);binOp op T (s.act.eval x) (s.act.eval y))
 | .slice T x lo hi mx=>some (Instr.sliceAt T (s.act.eval x) (lo.map s.act.eval) (hi.map s.act.eval) (mx.map s.act.eval))
 | .index T x ix=>some (Instr.index T (s.act.eval x) (s.act.eval ix))
 | .indexAddr T x ix=>some (Instr.indexAt T (s.act.eval x) (s.act.eval ix))
 | .convert a b x=>some (convert a b (s.act.eval x))
 | _=>none
def yieldsV (D:List Fact) (s:St0) (o:Oper) (r:Value):Prop :=
 match semOf s o with
 |some m=>Yields0 P w0 D m r
 |none=>False
def stepV (D:List Fact) (s:St0) (o:Oper) (X:Nat→Prop) (α:Type) (r:α→Value) (fs:α→List Fact):Prop :=
 match o.op with
 | .buildSlice T n parts=>StepM P w0 D (Instr.buildSlice T n (parts.map fun (i,x)=>(i,s.act.eval x))) X α r fs
 | .makeSlice T l c=>StepM P w0 D (Instr.makeSlice T (s.act.eval l) (s.act.eval c)) X α r fs
 | .store T a x=>StepU P w0 D (Instr.storeAt T (s.act.eval a) (s.act.eval x)) X α r fs
 | .call ⟨.builtin .append,args,ts⟩=>StepM P w0 D (Builtin.append_ ts o.type (args.map s.act.eval)) X α r fs
 | .call ⟨.builtin .copy,args,ts⟩=>StepM P w0 D (Builtin.copy_ ts o.type (args.map s.act.eval)) X α r fs
 | .call ⟨.builtin .clear,args,ts⟩=>StepM P w0 D (Builtin.clear_ ts o.type (args.map s.act.eval)) X α r fs
 | _=>False
def askV (D:List Fact) (s:St0) (o:Oper) (v:Option Value) (t:Tree) (K:St0→Tree→Prop):Prop :=
 match t,v with
 | .k t,some v=>K (s.put o.dst v none) t
 | .s t f,some (.bool b)=>(b=true→K (s.put o.dst (.bool true) none) t)∧(b=false→K (s.put o.dst (.bool false) none) f)
 | .m b t,some (.bool b')=>b'=b∧K (s.put o.dst (.bool b) none) t
 | .e r t,some v=>v=r∧K (s.put o.dst r none) t
 | .x r t,_=>yieldsV P w0 D s o r∧K (s.put o.dst r none) t
 | .xs b t f,_=>yieldsV P w0 D s o (.bool b)∧(b=true→K (s.put o.dst (.bool true) none) t)∧(b=false→K (s.put o.dst (.bool false) none) f)
 | .p g off cells t,_=>yieldsV P w0 D s o (.pointer (some ⟨g,off,none⟩))∧Reads0 w0 [] g off cells ∧
   K ({ s with blks:=(s.nxt,⟨g,off,cells,.low⟩) :: s.blks,nxt:=s.nxt+1 }.put o.dst (.pointer (some ⟨g,off,none⟩)) (some (s.nxt,0))) t
 | .q g off cells t,_=>yieldsV P w0 D s o (.pointer (some ⟨g,off,none⟩))∧Reads0 w0 D g off cells ∧
   K ({ s with blks:=(s.nxt,⟨g,off,cells,.dyn⟩) :: s.blks,nxt:=s.nxt+1 }.put o.dst (.pointer (some ⟨g,off,none⟩)) (some (s.nxt,0))) t
 | _,_=>False
def delS (D:List Fact):Option Nat→Nat→Prop
 |none=>fun _=>False
 |some j=>match D[j]? with
  |some f=>f.S
  |none=>fun _=>False
def lowB (l:List (Nat × Blk)):List (Nat × Blk):=l.filter fun x=>match x.2.own with | .dyn=>false | _=>true
def keepT (bl:List (Nat × Blk)):Option (Nat × Nat)→Option (Nat × Nat)
 |some g=>match findB bl g.1 with
  |some _=>some g
  |none=>none
 |none=>none
def delD (s:St0):Option Nat→St0
 |none=>s
 |some j=>{ s with dyn:=s.dyn.eraseIdx j,blks:=lowB s.blks,tags:=s.tags.map fun x=>(x.1,keepT (lowB s.blks) x.2) }
def entV (s:St0) (o:Oper) (f:FuncId) (args:Array Value) (t:Tree) (K:St0→Tree→Prop):Prop :=
 match t with
 | .c r t=>Gives P w0 s.dyn f args r∧K (s.put o.dst r none) t
 | .cm α r fs t=>GivesM P w0 s.dyn f args α r fs∧∀ x,K ({ s with dyn:=fs x++s.dyn }.put o.dst (r x) none) (t x)
 | .cs b t f'=>Gives P w0 s.dyn f args (.bool b)∧(b=true→K (s.put o.dst (.bool true) none) t)∧(b=false→K (s.put o.dst (.bool false) none) f')
 | .cB id r t=>match findB s.blks id with
  |some ⟨g,_,cs,.own T⟩=>Gives P w0 (s.dyn++[cellsF g cs T]) f args r∧K (s.put o.dst r none) t
  | _=>False
 | .cD none α r _ fs t=>GivesD P w0 s.dyn f args α r fs∧∀ x,K ({ delD s (some s.dyn.length) with dyn:=fs x }.put o.dst (r x) none) (t x)
 | .cD (some id) α r cs fs t=>match findB s.blks id with
  |some ⟨g,_,c0,.own T⟩=>GivesD P w0 (cellsF g c0 T :: s.dyn) f args α r (fun x=>cellsF g (cs x) T :: fs x)∧∀ x,K ({ delD s (some s.dyn.length) with dyn:=fs x,blks:=setB (lowB s.blks) id (cs x) }.put o.dst (r x) none) (t x)
  | _=>False
 | _=>False
def newV (s:St0) (o:Oper) (T:TypeId) (cells:Array Value) (t:Tree) (K:St0→Tree→Prop):Prop :=
 ∀ g:Nat,K ({ s with blks:=(s.nxt,⟨g,0,cells,.own T⟩) :: s.blks,nxt:=s.nxt+1 }.put o.dst (.pointer (some ⟨g,0,none⟩)) (some (s.nxt,0))) t
def stoV (s:St0) (o:Oper) (id off:Nat) (v:Value) (t:Tree) (K:St0→Tree→Prop):Prop :=
 match findB s.blks id with
 |some ⟨_,_,cs,.own _⟩=>bif Nat.ble (off+v.cells.size) cs.size then K ({ s with blks:=setB s.blks id (cs.toList.take off++v.cells.toList++cs.toList.drop (off+v.cells.size)).toArray }.put o.dst undef none) t else False
 | _=>False
def memV (s:St0) (o:Oper) (t:Tree) (K:St0→Tree→Prop):Prop :=
 match t with
 | .w α del r fs t=>stepV P w0 s.dyn s o (delS s.dyn del) α r fs∧∀ x,K ({ delD s del with dyn:=fs x++(delD s del).dyn }.put o.dst (r x) none) (t x)
 | _=>False
def lodV (s:St0) (o:Oper) (T:TypeId) (v:Value) (t:Tree) (K:St0→Tree→Prop):Prop :=
 match t with
 | .x r t=>Yields0 P w0 s.dyn (Instr.loadAt T v) r∧K (s.put o.dst r none) t
 | .xs b t f=>Yields0 P w0 s.dyn (Instr.loadAt T v) (.bool b)∧(b=true→K (s.put o.dst (.bool true) none) t)∧(b=false→K (s.put o.dst (.bool false) none) f)
 | _=>False
def opV (D:List Fact) (s:St0) (o:Oper) (t:Tree) (K:St0→Tree→Prop):Prop :=
 match outOf P s o with
 | .val v g=>K (s.put o.dst v g) t
 | .ask v=>askV P w0 D s o v t K
 | .new T cells=>newV s o T cells t K
 | .sto id off v=>stoV s o id off v t K
 | .ent f args=>entV P w0 s o f args t K
 | .mem=>memV P w0 s o t K
 | .lod T v=>lodV P w0 s o T v t K
 | .bad=>False
def opsV (ops:Array Oper):List Oper→(St0→Tree→Prop)→St0→Tree→Prop
 | [],K,s,t=>K s t
 |o :: rest,K,s,t=>match Region.wanted o (yielded ops s.act.tmps) with
  |true=>opV P w0 s.dyn s o t (opsV ops rest K)
  |false=>opsV ops rest K (s.put o.dst undef none) t
def oldB (s:St0) (n1:Nat) (mx:List Nat) (id:Nat):Bool :=
 match findB s.blks id with
 |some b=>match b.own with
  | .own _=>Nat.blt id n1 && !mx.contains id
  | _=>true
 |none=>false
def early (P:Program) (s:St0) (o:Oper) (n1:Nat) (mx:List Nat):Bool :=
 match o.op with
 | .load _ x=>match s.tag x with
  |some (id,_)=>oldB s n1 mx id
  |none=>false
 | _=>match outOf P s o with
  | .val _ _=>true
  | .ask _=>true
  | _=>false
def first (P:Program) (ops:Array Oper) (s:St0) (n1:Nat) (listed:Array Bool) (mx:List Nat):List Nat→Option (Nat × Oper × Bool)
 | []=>none
 |i :: l=>match ops[i]? with
  |none=>none
  |some o=>bif Region.free .any ops listed i then (match Region.wanted o (yielded ops s.act.tmps) with
    |true=>bif early P s o n1 mx then some (i,o,true) else first P ops s n1 listed mx l
    |false=>some (i,o,false)) else first P ops s n1 listed mx l
def turnV (D:List Fact) (ops:Array Oper) (n1:Nat) (mx:List Nat) (s:St0) (o:Oper) (t:Tree) (K:St0→Tree→Prop):Prop :=
 match Region.wanted o (yielded ops s.act.tmps) with
 |true=>match outOf P s o with
  | .sto id _ _=>bif mx.contains id || Nat.ble n1 id then opV P w0 D s o t K else False
  | .ent _ _=>match t with
   | .cD none _ _ _ fs _=>(∀ x,Imp w0 (fs x) D)∧opV P w0 D s o t K
   | .cD (some id) _ _ _ fs _=>bif mx.contains id || Nat.ble n1 id then (∀ x,Imp w0 (fs x) D)∧opV P w0 D s o t K else False
   | _=>opV P w0 D s o t K
  | .mem=>match t with
   | .w _ none _ _ _=>opV P w0 D s o t K
   | .w _ (some j) _ fs _=>(∀ x,Imp w0 (fs x++(delD s (some j)).dyn) D)∧opV P w0 D s o t K
   | _=>False
  | _=>opV P w0 D s o t K
 |false=>False
def anyV (D:List Fact) (ops:Array Oper) (n1:Nat) (mx:List Nat) (K:St0→Tree→Prop):Nat→Array Bool→St0→Tree→Prop
 | 0,listed,s,t=>match Region.ready .any ops listed with
  | []=>K s t
  | _=>False
 |n + 1,listed,s,t=>match Region.ready .any ops listed with
  | []=>K s t
  |r :: rs=>match t with
   | .now v u=>match rs,ops[r]? with
    | [],some o=>Region.wanted o (yielded ops s.act.tmps)=true∧yieldsV P w0 s.dyn s o v∧anyV D ops n1 mx K n (listed.setIfInBounds r true) (s.put o.dst v none) u
    | _,_=>False
   |t => match first P ops s n1 listed mx (r :: rs) with
    |some (i,o,true)=>opV P w0 D s o t (anyV D ops n1 mx K n (listed.setIfInBounds i true))
    |some (i,o,false)=>anyV D ops n1 mx K n (listed.setIfInBounds i true) (s.put o.dst undef none) t
    |none=>match rs,t,ops[r]? with
     | [],t,some o=>turnV P w0 D ops n1 mx s o t (anyV D ops n1 mx K n (listed.setIfInBounds r true))
     | [r2],.two t f,some o=>match ops[r2]? with
      |some o2=>turnV P w0 D ops n1 mx s o t (anyV D ops n1 mx K n (listed.setIfInBounds r true))∧turnV P w0 D ops n1 mx s o2 f (anyV D ops n1 mx K n (listed.setIfInBounds r2 true))
      |none=>False
     | [r2,r3],.three t f u,some o=>match ops[r2]?,ops[r3]? with
      |some o2,some o3=>turnV P w0 D ops n1 mx s o t (anyV D ops n1 mx K n (listed.setIfInBounds r true))∧turnV P w0 D ops n1 mx s o2 f (anyV D ops n1 mx K n (listed.setIfInBounds r2 true))∧turnV P w0 D ops n1 mx s o3 u (anyV D ops n1 mx K n (listed.setIfInBounds r3 true))
      | _,_=>False
     | _,_,_=>False
def spread (τ:Nat→Value) (l:List (Nat × Value × Option (Nat × Nat))):Nat→List Value→List Value
 | _,[]=>[]
 |n,_ :: vs=>(match l.find? fun x=>Nat.beq x.1 n with | some x=>x.2.1 | none=>τ n) :: spread τ l (n+1) vs
def headB (s:St0) (keep:List Nat) (m:List (Nat × Array Value)):List (Nat × Blk) :=
 (lowB s.blks).filterMap fun x=>match m.find? fun y=>Nat.beq y.1 x.1 with
  |some y=>some (x.1,{ x.2 with cells:=y.2 })
  |none=>bif keep.any (Nat.beq x.1) then some x else none
def headS (s:St0) (τ:Nat→Value) (keep:List Nat) (l:List (Nat × Value × Option (Nat × Nat))) (m:List (Nat × Array Value)) (dyn:List Fact):St0 :=
 { s with act:={ s.act with tmps:=(spread τ l 0 s.act.tmps.toList).toArray },tags:=l.map (fun x=>(x.1,x.2.2)),blks:=headB s keep m,dyn:=dyn }
def withP (s:St0) (l:List (Nat × Value × Option (Nat × Nat))):List (Nat × Value × Option (Nat × Nat)) :=
 l.map fun x=>match x.2.2 with
  |some (id,off)=>match findB s.blks id with
   |some b=>(x.1,.pointer (some ⟨b.g,b.o+off,none⟩),x.2.2)
   |none=>x
  |none=>x
def Turns (D fs:List Fact):Prop :=
 (∀ f ∈ D,Stable f)→(D.Pairwise fun f g => ∀ k,f.S k→¬ g.S k) →
  (∀ f ∈ fs,Stable f)∧(fs.Pairwise fun f g => ∀ k,f.S k→¬ g.S k)∧(∀ f ∈ fs,∀ k,f.S k→∃ g ∈ D,g.S k)∧∀ w,Below w0.heap.size w0 w→All D w→All fs w
def matchS (s s' : St0) (keep:List Nat) (l:List (Nat × Value × Option (Nat × Nat))) (m:List (Nat × Array Value)) (dyn:List Fact):Prop :=
 (l.map fun x=>s'.act.tmps.getD x.1 undef)=l.map (fun x=>x.2.1) ∧
 ((headB s keep m).map fun x=>findB s'.blks x.1)=((headB s keep m).map fun x=>some x.2)∧Turns w0 s'.dyn dyn
def tagsOk (s s' : St0) (keep:List Nat) (l:List (Nat × Value × Option (Nat × Nat))) (m:List (Nat × Array Value)):Bool :=
 l.all fun x=>match x.2.2 with
  |some g=>(findT s'.tags x.1 == some g) && (headB s keep m).any fun y=>Nat.beq y.1 g.1
  |none=>true
def resV (P:Program) (s:St0):List ResultVar→Option (List Value)
 | []=>some []
 | .tmp t :: l=>match resV P s l with
  |some vs=>some (s.act.tmps.getD t undef :: vs)
  |none=>none
 | .cell a T :: l=>match findT s.tags a with
  |some (id,off)=>match findB s.blks id with
   |some b=>match loadB P b T off,resV P s l with
    |some v,some vs=>some (v :: vs)
    | _,_=>none
   |none=>none
  |none=>none
def packV:List Value→Value
 | [v]=>v
 |vs=>.tuple vs.toArray
def splitV (R:Tree→Prop):Tree→Prop
 | .gs b t f=>(b=true→splitV R t)∧(b=false→splitV R f)
 |t=>R t
def regV (ops:Array Oper) (d:Bool) (K:Exit→St0→Tree→Prop) (s:St0) (t:Tree):Prop :=
 match d,t with
 |false,t=>opsV P w0 ops ops.toList (K .normal) s t
 |true,.o mx t=>match P.follows .mixedOrders,Region.noSelect ops with
  |true,true=>anyV P w0 s.dyn ops s.nxt mx (K .normal) ops.size (Array.replicate ops.size false) s t
  | _,_=>False
 |true,.ow mx D t=>Imp w0 s.dyn D∧match P.follows .mixedOrders,Region.noSelect ops with
  |true,true=>anyV P w0 D ops s.nxt mx (K .normal) ops.size (Array.replicate ops.size false) (delD s (some s.dyn.length)) t
  | _,_=>False
 | _,_=>False
def outB (l:List (Nat × Blk)) (id:Nat):List (Nat × Blk):=l.filter fun x => !Nat.beq x.1 id
def relS (s:St0) (id:Nat) (f:Fact):St0:={ s with dyn:=f :: s.dyn,blks:=outB s.blks id,tags:=s.tags.map fun x=>(x.1,keepT (outB s.blks id) x.2) }
def relV (R:St0→Tree→Prop):Tree→St0→Prop
 | .rel id u,s=>match findB s.blks id with
  |some ⟨g,_,cs,.own T⟩=>relV R (u g) (relS s id (cellsF g cs T))
  | _=>R s (.rel id u)
 |t,s=>R s t
def hasCall (ops:Array Oper):Bool:=ops.toList.any fun o=>match o.op with
 | .call c=>match c.callee with
  | .builtin _=>false
  | _=>true
 | _=>false
def addX (s:St0) (ext:List (Nat × Blk)) (nx:Nat):St0:={ s with blks:=ext++s.blks,nxt:=nx }
def distB:List (Nat × Blk)→Bool
 | []=>true
 |x :: l=>(l.all fun y => !Nat.beq x.1 y.1) && distB l
def extOk (s:St0) (ext:List (Nat × Blk)) (nx:Nat):Bool:=(ext.all fun y=>Nat.ble s.nxt y.1 && Nat.blt y.1 nx) && Nat.ble s.nxt nx && distB ext
def firstR:Code→Nat
 | .region id _ _=>id
 | .seq a _=>firstR a
 | .block _ a=>firstR a
 | _=>0
def roundsV (R:(Exit→St0→Tree→Prop)→St0→Tree→Prop) (K:Exit→St0→Tree→Prop):Nat→St0→Tree→Prop
 | 0,_,_=>False
 |n+1,s,t=>R (fun e s' t'=>match e with | .normal=>roundsV R K n s' t' | e=>K e s' t') s t
def codeV:Code→(Exit→St0→Tree→Prop)→St0→Tree→Prop
 | .skip,K,s,t=>K .normal s t
 | .region _ ops d,K,s,t=>relV (fun s t=>bif hasCall ops then splitV (regV P w0 ops d K s) t else regV P w0 ops d K s t) t s
 | .seq a b,K,s,t=>match t with
  | .j n _ set mem keep dyn I ext nx t1 u=>bif Nat.beq (firstR b) n then codeV a (fun e s' t=>match e with | .normal => ∃ x',I x'∧matchS w0 (addX s (ext x') nx) s' keep (withP (addX s (ext x') nx) (set x')) (mem x') (dyn x')∧(extOk s (ext x') nx && tagsOk (addX s (ext x') nx) s' keep (withP (addX s (ext x') nx) (set x')) (mem x'))=true | e=>K e s' t) s t1 ∧
    ∀ x,I x→∀ τ:Nat→Value,codeV b K (headS (addX s (ext x) nx) τ keep (withP (addX s (ext x) nx) (set x)) (mem x) (dyn x)) (u x)
   else codeV a (fun e s t=>match e with | .normal=>codeV b K s t | e=>K e s t) s t
  |t=>codeV a (fun e s t=>match e with | .normal=>codeV b K s t | e=>K e s t) s t
 | .cond c a b,K,s,t=>match s.act.eval c with
  | .bool true=>codeV a K s t
  | .bool false=>codeV b K s t
  | _=>False
 | .block id a,K,s,t=>codeV a (fun e s t=>match e with | .exit id'=>bif Nat.beq id' id then K .normal s t else K e s t | e=>K e s t) s t
 | .exit id,K,s,t=>K (.exit id) s t
 | .ret,K,s,t=>K .ret s t
 | .loop a,K,s,.u n t=>roundsV (codeV a) K n s t
 | .loop a,K,s,.l α set mem keep pre dyn I μ x0 t=>Brings w0 s.dyn pre∧I x0∧matchS w0 s { s with dyn:=pre++s.dyn } keep (withP s (set x0)) (mem x0) (dyn x0)∧tagsOk s s keep (withP s (set x0)) (mem x0)=true∧∀ (x:α),I x→∀ τ:Nat→Value,
   codeV a (fun e s' t=>match e with | .normal => ∃ x',I x'∧μ x' < μ x∧matchS w0 s s' keep (withP s (set x')) (mem x') (dyn x')∧tagsOk s s' keep (withP s (set x')) (mem x')=true | e=>K e s' t) (headS s τ keep (withP s (set x)) (mem x) (dyn x)) (t x)
 | _,_,_,_=>False
def retV (fn:Func) (Post:Value→List Fact→Prop):Exit→St0→Tree→Prop
 | .normal,s,_ | .ret,s,_=>match s.act.defers,resV P s fn.results.toList with
  | [],some vs=>Post (packV vs) s.dyn
  | _,_=>False
 | _,_,_=>False
def retX (fn:Func) (Post:Value→St0→Prop):Exit→St0→Tree→Prop
 | .normal,s,_ | .ret,s,_=>match s.act.defers,resV P s fn.results.toList with
  | [],some vs=>Post (packV vs) s
  | _,_=>False
 | _,_,_=>False
def funX (fn:Func) (args:Array Value) (tags:List (Nat × Option (Nat × Nat))) (blks:List (Nat × Blk)) (D:List Fact) (Post:Value→St0→Prop) (t:Tree):Prop :=
 match fn.body with
 |some c=>codeV P w0 c (retX P fn Post) ⟨{ tmps:=args++Array.replicate (fn.ntmps - args.size) undef,defers:=[] },tags,blks,blks.length,D⟩ t
 |none=>False
def funV (fn:Func) (args:Array Value) (Post:Value→List Fact→Prop) (t:Tree):Prop :=
 match fn.body with
 |some c=>codeV P w0 c (retV P fn Post) ⟨{ tmps:=args++Array.replicate (fn.ntmps - args.size) undef,defers:=[] },[],[],0,[]⟩ t
 |none=>False
end
theorem dq {p : Prop} [Decidable p] : ((decide p = true) = p) ∧ ((decide p = false) = ¬p) ∧ (((!decide p) = true) = ¬p) ∧ (((!decide p) = false) = p) := by by_cases h : p <;> simp [h]
end Go.Proofs.Ytcpahggkioagkaa
