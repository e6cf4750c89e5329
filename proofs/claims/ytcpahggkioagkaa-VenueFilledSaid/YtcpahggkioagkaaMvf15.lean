/-
  NumWords, TotWords, LimMath, BookMath, BookMath2, BookMath3, BookMath4, BookMath5, BookMath6, NumAdd, NumSub, NumMul, NumMax
-/
import Derived.Test.YtcpahggkioagkaaRows
import Derived.Test.YtcpahggkioagkaaMvf01
import Derived.WalkKit
import Derived.WalkSpells
import Derived.WalkLawsBesides
import Derived.Test.YtcpahggkioagkaaMvf12
set_option linter.unusedVariables false
set_option linter.unusedSimpArgs false
section
namespace Go.Proofs.Ytcpahggkioagkaa.num
set_option maxRecDepth 20000
open Go.RowKit
end Go.Proofs.Ytcpahggkioagkaa.num
end
section
namespace Go.Proofs.Ytcpahggkioagkaa.num
set_option maxRecDepth 20000
open Go.RowKit
def tot (s:Int):List Int→Option Int
 | []=>some s
 |x :: r=>if inI (s+x) then tot (s+x) r else none
def totV (o:Option Int):Int:=o.getD 0
def totE (o:Option Int):Int:=if o.isSome then 0 else 3
end Go.Proofs.Ytcpahggkioagkaa.num
end
section
namespace Go.Proofs.Ytcpahggkioagkaa.limit
set_option maxRecDepth 20000
open Go.Proofs.Ytcpahggkioagkaa.cell (Ce Ex covers covers_iff)
open Go.Proofs.Ytcpahggkioagkaa.frame (inR)
def right (l:Ex):Bool:=decide (0≤l.l∧0≤l.s∧0≤l.n)
def cap (was now c:Int):Bool:=decide (was < now∧c < now)
def against (was now l:Ex):Bool:=cap was.l now.l l.l || cap was.s now.s l.s || cap was.n now.n l.n
def whole (l:List Ce):Int × Int:=(num.totV (num.tot 0 (l.map Ce.n)),num.totE (num.tot 0 (l.map Ce.n)))
theorem against_iff {was now l:Ex} : against was now l=true ↔ (was.l < now.l∧l.l < now.l)∨(was.s < now.s∧l.s < now.s)∨(was.n < now.n∧l.n < now.n):=by
 simp [against,cap,or_assoc]
theorem against_no {was now l:Ex} : against was now l=false ↔ ¬ ((was.l < now.l∧l.l < now.l)∨(was.s < now.s∧l.s < now.s)∨(was.n < now.n∧l.n < now.n)):=by
 rw [← against_iff];simp
theorem covers_no {a b:Ex} : covers a b=false ↔ ¬ (b.l≤a.l∧b.s≤a.s∧b.n≤a.n):=by
 rw [← covers_iff];simp
theorem down {was now l:Ex} (g:against was now l=true):covers was now=false:=by
 rw [covers_no];rw [against_iff] at g;omega
theorem two {a b c l:Ex} (h:against a b l=false) (g:against b c l=false):against a c l=false:=by
 rw [against_no] at *;omega
end Go.Proofs.Ytcpahggkioagkaa.limit
end
section
namespace Go.Proofs.Ytcpahggkioagkaa.book
set_option maxRecDepth 20000
open Go.Proofs.Ytcpahggkioagkaa.cell (Ce Ex)
open Go.Proofs.Ytcpahggkioagkaa.order (Or Nt open_ worth)
open Go.Proofs.Ytcpahggkioagkaa.rec (Rc)
open Go.Proofs.Ytcpahggkioagkaa.frame (inR)
structure St where
 (a y:Int) (os:List Or) (cs:List Ce) (ls:List Ex) (ps:List Int) (k:Bool) (last seq lsn:Int)
 deriving DecidableEq
def pl (y:Int) (o:Or):Int:=o.a * y+o.y
def wB (y i:Int) (o:Or):Int:=if pl y o=i∧o.d=1 then open_ o else 0
def wS (y i:Int) (o:Or):Int:=if pl y o=i∧o.d≠1 then open_ o else 0
def wN (y i:Int) (o:Or):Int:=if pl y o=i then (worth o).1 else 0
def sum (w:Or→Int) (os:List Or):Int:=(os.map w).sum
def cellAt (y i p:Int) (os:List Or):Ce:=⟨p,sum (wB y i) os,sum (wS y i) os,sum (wN y i) os⟩
def cellsOf (y:Int) (os:List Or) (ps:List Int):List Ce:=ps.mapIdx fun i p=>cellAt y i p os
def acc (y:Int) (j:Nat) (cs:List Ce):List Ce:=(cs.drop (j * y.toNat)).take y.toNat
def Fits (a y:Int) (os:List Or) (cs:List Ce):Prop :=
 (∀ o ∈ os,(worth o).2=0)∧(∀ c ∈ cs,c.fine∧cell.Rightly c)∧∀ j ∈ List.range a.toNat,(limit.whole (acc y j cs)).2=0
def OrdersOk (a y last:Int) (os:List Or):Prop :=
 (∀ o ∈ os,order.Rightly o∧o.h≠3∧o.a < a∧o.y < y∧o.i≤last)∧os.Pairwise (fun o p=>o.i < p.i)∧os.length≤64
def LimOk (l:Ex):Prop:=0≤l.l∧0≤l.s∧0≤l.n
def Rightly (s:St):Prop :=
 (1≤s.a∧s.a≤8∧1≤s.y∧s.y≤8)∧((s.cs.length:Int)=s.a * s.y∧(s.ls.length:Int)=s.a * s.y∧(s.ps.length:Int)=s.a) ∧
 (0≤s.last∧s.last≤1000000000000∧0≤s.seq∧s.seq≤1000000000∧0≤s.lsn∧s.lsn≤1000000000) ∧
 OrdersOk s.a s.y s.last s.os∧(∀ l ∈ s.ls,LimOk l)∧(∀ c ∈ s.ps,0≤c)∧Fits s.a s.y s.os s.cs∧s.cs=cellsOf s.y s.os (s.cs.map Ce.p)
instance (a y:Int) (os:List Or) (cs:List Ce):Decidable (Fits a y os cs):=by unfold Fits;infer_instance
instance (a y last:Int) (os:List Or):Decidable (OrdersOk a y last os):=by unfold OrdersOk;infer_instance
instance (l:Ex):Decidable (LimOk l):=by unfold LimOk;infer_instance
instance (s:St):Decidable (Rightly s):=by unfold Rightly;infer_instance
def right (s:St):Bool:=decide (Rightly s)
theorem right_iff {s:St} : right s=true ↔ Rightly s:=by simp [right]
theorem right_no {s:St} : right s=false ↔ ¬ Rightly s:=by simp [right]
theorem cells_at {y:Int} {os:List Or} {ps:List Int} {i:Nat} {p:Int} (h:ps[i]?=some p):(cellsOf y os ps)[i]?=some (cellAt y i p os):=by
 simp [cellsOf,List.getElem?_mapIdx,h]
end Go.Proofs.Ytcpahggkioagkaa.book
end
section
namespace Go.Proofs.Ytcpahggkioagkaa.book
set_option maxRecDepth 20000
open Go.Proofs.Ytcpahggkioagkaa.cell (Ce Ex)
open Go.Proofs.Ytcpahggkioagkaa.order (Or Nt open_ worth Took)
open Go.Proofs.Ytcpahggkioagkaa.rec (Rc)
open Go.Proofs.Ytcpahggkioagkaa.frame (inR)
def cz:Ce:=⟨0,0,0,0⟩
def xz:Ex:=⟨0,0,0⟩
def place (y a b:Int):Nat:=(a * y+b).toNat
def put (s:St) (os:List Or):St:={ s with os:=os,cs:=cellsOf s.y os (s.cs.map Ce.p) }
def stands (s t:St) (a y:Int):Bool :=
 limit.against (cell.of_ (s.cs.getD (place s.y a y) cz)).1 (cell.of_ (t.cs.getD (place s.y a y) cz)).1 (s.ls.getD (place s.y a y) xz) ||
 limit.cap (limit.whole (acc s.y a.toNat s.cs)).1 (limit.whole (acc s.y a.toNat t.cs)).1 (s.ps.getD a.toNat 0)
def ask (s:St) (os:List Or) (a y last:Int):St × Int :=
 if Fits s.a s.y os (put s os).cs then (if stands s (put s os) a y=true then (s,4) else ({ put s os with last:=last },0)) else (s,3)
def Wrong (s:St) (r:Rc):Prop:=right s=false∨rec.right r=false∨1000000000≤s.lsn∨s.a≤r.a∨s.y≤r.y∨(r.k=1∧r.o≤s.last)
instance (s:St) (r:Rc):Decidable (Wrong s r):=by unfold Wrong;infer_instance
end Go.Proofs.Ytcpahggkioagkaa.book
end
section
namespace Go.Proofs.Ytcpahggkioagkaa.book
set_option maxRecDepth 20000
open Go.Proofs.Ytcpahggkioagkaa.cell (Ce Ex)
open Go.Proofs.Ytcpahggkioagkaa.order (Or Nt open_ worth Took)
open Go.Proofs.Ytcpahggkioagkaa.rec (Rc)
open Go.Proofs.Ytcpahggkioagkaa.frame (inR)
end Go.Proofs.Ytcpahggkioagkaa.book
end
section
namespace Go.Proofs.Ytcpahggkioagkaa.book
set_option maxRecDepth 20000
open Go.Proofs.Ytcpahggkioagkaa.cell (Ce Ex)
open Go.Proofs.Ytcpahggkioagkaa.order (Or Nt open_ worth Took)
open Go.Proofs.Ytcpahggkioagkaa.rec (Rc)
open Go.Proofs.Ytcpahggkioagkaa.frame (inR)
end Go.Proofs.Ytcpahggkioagkaa.book
end
section
namespace Go.Proofs.Ytcpahggkioagkaa.book
set_option maxRecDepth 20000
open Go.Proofs.Ytcpahggkioagkaa.cell (Ce Ex covers_iff)
open Go.Proofs.Ytcpahggkioagkaa.order (Or Nt open_ worth Took)
open Go.Proofs.Ytcpahggkioagkaa.rec (Rc)
open Go.Proofs.Ytcpahggkioagkaa.frame (inR)
def exOf (c:Ce):Ex:=⟨c.p+c.b,c.s - c.p,c.n⟩
def openA (s:St) (j:Nat):Int:=(limit.whole (acc s.y j s.cs)).1
end Go.Proofs.Ytcpahggkioagkaa.book
end
section
namespace Go.Proofs.Ytcpahggkioagkaa.book
set_option maxRecDepth 20000
open Go.Proofs.Ytcpahggkioagkaa.cell (Ce Ex covers_iff)
open Go.Proofs.Ytcpahggkioagkaa.order (Or Nt open_ worth Took)
open Go.Proofs.Ytcpahggkioagkaa.rec (Rc)
open Go.Proofs.Ytcpahggkioagkaa.frame (inR)
set_option linter.unusedVariables false
set_option linter.unusedSimpArgs false

/-- what was asked for,and done: where it went,and that it kept within the limits. -/
structure Kept (s t:St) (o:Or):Prop where
  len:t.cs.length=s.cs.length
  ls:t.ls=s.ls
  ps:t.ps=s.ps
  a:t.a=s.a
  y:t.y=s.y
  k:s.k=false
  seq:t.seq=s.seq
  oa:0≤o.a∧o.a < s.a
  oy:0≤o.y∧o.y < s.y
  cell:∀ (i:Nat) (c d:Ce),s.cs[i]?=some c→t.cs[i]?=some d→cell.covers (exOf d) (exOf c)=true∧((i:Int)≠pl s.y o→d=c)∧∀ l,s.ls[i]?=some l→limit.against (exOf c) (exOf d) l=false
  cap:openA s o.a.toNat≤openA t o.a.toNat∧∀ p,s.ps[o.a.toNat]?=some p→limit.cap (openA s o.a.toNat) (openA t o.a.toNat) p=false
end Go.Proofs.Ytcpahggkioagkaa.book
end
section
namespace Go.Proofs.Ytcpahggkioagkaa.num
set_option maxRecDepth 20000
open Go.RowKit
theorem add_ok (a b:Int) (w:World) (ha:inI a) (hb:inI b) (h:inI (a+b)) :
  Calls Try.prog 43 #[.int .i64 a,.int .i64 b] w fun e w'=>e = .returned (.tuple #[.int .i64 (a+b),.int .i64 0])∧w=w':=by
 unfold inI at ha hb h
 by_cases hn:b < 0
 ·have h2:a+b < a:=by omega
  go_enter Try.func43,Try.ntmps43
  go_wp2
  go_ret2
  exact ⟨rfl,rfl⟩
 ·have h2:¬ a+b < a:=by omega
  go_enter Try.func43,Try.ntmps43
  go_wp2
  go_ret2
  exact ⟨rfl,rfl⟩
theorem add_over (a b:Int) (w:World) (ha:inI a) (hb:inI b) (h:¬ inI (a+b)) :
  Calls Try.prog 43 #[.int .i64 a,.int .i64 b] w fun e w'=>e = .returned (.tuple #[.int .i64 0,.int .i64 3])∧w=w':=by
 unfold inI at ha hb h
 by_cases hn:b < 0
 ·have h2:¬ wrap64 (a+b) < a:=by unfold wrap64;omega
  go_enter Try.func43,Try.ntmps43
  go_wp2
  go_ret2
  exact ⟨rfl,rfl⟩
 ·have h2:wrap64 (a+b) < a:=by unfold wrap64;omega
  go_enter Try.func43,Try.ntmps43
  go_wp2
  go_ret2
  exact ⟨rfl,rfl⟩
end Go.Proofs.Ytcpahggkioagkaa.num
end
section
namespace Go.Proofs.Ytcpahggkioagkaa.num
set_option maxRecDepth 20000
open Go.RowKit
end Go.Proofs.Ytcpahggkioagkaa.num
end
section
namespace Go.Proofs.Ytcpahggkioagkaa.num
set_option maxRecDepth 20000
open Go.RowKit
end Go.Proofs.Ytcpahggkioagkaa.num
end
section
namespace Go.Proofs.Ytcpahggkioagkaa.num
set_option maxRecDepth 20000
open Go.RowKit
theorem max_any (a b:Int) (w:World) (ha:inI a) (hb:inI b) :
  Calls Try.prog 68 #[.int .i64 a,.int .i64 b] w fun e w'=>e = .returned (.int .i64 (max a b))∧w=w':=by
 unfold inI at ha hb
 by_cases h:a < b
 ·rw [show max a b=b by omega]
  go_enter Try.func68,Try.ntmps68
  go_wp2
  go_ret
  exact ⟨by simp,rfl⟩
 ·rw [show max a b=a by omega]
  go_enter Try.func68,Try.ntmps68
  go_wp2
  go_ret
  exact ⟨by simp,rfl⟩
end Go.Proofs.Ytcpahggkioagkaa.num
end
