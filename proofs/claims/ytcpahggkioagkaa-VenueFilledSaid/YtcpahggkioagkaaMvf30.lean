/-
  VenM
-/
import Derived.Test.YtcpahggkioagkaaMvf16
import Derived.Test.YtcpahggkioagkaaMvf28
import Derived.Test.YtcpahggkioagkaaMvf23
import Derived.Test.YtcpahggkioagkaaMvf29
set_option linter.unusedVariables false
set_option linter.unusedSimpArgs false
namespace Go.Proofs.Ytcpahggkioagkaa.order
set_option maxRecDepth 20000
open Go.Proofs.Ytcpahggkioagkaa.frame (inR)
abbrev Nt.fine (n:Nt):Prop:=inR n.z∧inR n.t∧inR n.o∧inR n.q∧inR n.p
end Go.Proofs.Ytcpahggkioagkaa.order
namespace Go.Proofs.Ytcpahggkioagkaa.venue
open Go.RowKit Go.Proofs.Ytcpahggkioagkaa
open Go.Proofs.Ytcpahggkioagkaa.frame (inR)
open Go.Proofs.Ytcpahggkioagkaa.rec (wf64 Rc)
open Go.Proofs.Ytcpahggkioagkaa.order (Or oz)
structure Mg where
 (k i a y d q p v l:Int)
 deriving DecidableEq
def Mg.fine (m:Mg):Prop:=inR m.k∧inR m.i∧inR m.a∧inR m.y∧inR m.d∧inR m.q∧inR m.p∧inR m.v∧inR m.l
def mz:Mg:=⟨0,0,0,0,0,0,0,0,0⟩
def nz:order.Nt:=⟨0,0,0,0,0⟩
def mc (x:Mg):Array Value:=#[.int .i64 x.k,.int .i64 x.i,.int .i64 x.a,.int .i64 x.y,.int .i64 x.d,.int .i64 x.q,.int .i64 x.p,.int .i64 x.v,.int .i64 x.l]
theorem run_eq5 (x x2:order.Nt) (hf:x.fine) (hg:x2.fine) (W:World) :
  (Op.equalIn 10000 51 (.agg (order.nc x)) (.agg (order.nc x2))).run Try.prog W = .ok (decide (x=x2)) W:=by
 have c_int:Try.prog.cellsOf 3=1:=by kernel_rfl
 have c_int64:Try.prog.cellsOf 2=1:=by kernel_rfl
 have kl:∀ f:order.Nt,f.fine→Try.prog.keyLits 3 51 (order.nc f).toList=some [.int .i64 f.z,.int .i64 f.t,.int .i64 f.o,.int .i64 f.q,.int .i64 f.p]:=fun f ⟨h0,h1,h2,h3,h4⟩=>by
  rw [kl_struct 2 _ Try.underlying51 (by kernel_rfl) (by kernel_rfl)]
  simp [order.nc,c_int,c_int64,kl_int 1 _ Try.underlying3,kl_int 1 _ Try.underlying2,wf64 h0,wf64 h1,wf64 h2,wf64 h3,wf64 h4]
 refine run_eq_by (by kernel_rfl) 3 (by kernel_rfl) (by kernel_rfl) (kl x hf) (kl x2 hg) _ ?_ W
 obtain ⟨z,t,o,q,p⟩:=x
 obtain ⟨z',t',o',q',p'⟩:=x2
 simp
def rdMsg:Rd Mg:=fun _ _ cs o=>cs=(mc o).toList∧o.fine
def rdNt:Rd order.Nt:=fun _ _ cs o=>cs=(order.nc o).toList∧o.fine
theorem keeps_msg:Keeps rdMsg:=fun _ _ _ _ _ _ h _ _=>h
theorem keeps_nt:Keeps rdNt:=fun _ _ _ _ _ _ h _ _=>h
theorem leaf_msg:Leaf rdMsg:=fun _ _ cs f ⟨h,_⟩ c hc=>by
 rw [h] at hc
 simp [mc] at hc
 rcases hc with rfl | rfl | rfl | rfl | rfl | rfl | rfl | rfl | rfl<;>rfl
theorem leaf_nt:Leaf rdNt:=fun _ _ cs f ⟨h,_⟩ c hc=>by
 rw [h] at hc
 simp [order.nc] at hc
 rcases hc with rfl | rfl | rfl | rfl | rfl<;>rfl
theorem info_msg:(Try.prog.info? 28).map (fun i=>(i.zero,i.size,i.bytes))=some (some (.agg (mc mz)),9,72):=by kernel_rfl
theorem info_nt:(Try.prog.info? 51).map (fun i=>(i.zero,i.size,i.bytes))=some (some (.agg (order.nc nz)),5,40):=by kernel_rfl
theorem msg_cells (w:World) (S:Nat→Prop) (cs:List Value) (x:Mg) (h:rdMsg w S cs x):cs=(mc x).toList:=h.1
theorem nt_cells (w:World) (S:Nat→Prop) (cs:List Value) (x:order.Nt) (h:rdNt w S cs x):cs=(order.nc x).toList:=h.1
theorem fine_msg {w:World} {S:Nat→Prop} {A:Option Addr} {l:List Mg} (h:Elems rdMsg 9 w S A l):∀ f ∈ l,f.fine:=by
 intro f hf
 obtain ⟨j,hj,rfl⟩:=List.getElem_of_mem hf
 obtain ⟨b,off,e,hb,hc⟩:=h (by omega)
 obtain ⟨cs,hl,hcs,_,hf⟩:=hc j l[j] (List.getElem?_eq_getElem hj)
 exact hf
theorem fine_nt {w:World} {S:Nat→Prop} {A:Option Addr} {l:List order.Nt} (h:Elems rdNt 5 w S A l):∀ f ∈ l,f.fine:=by
 intro f hf
 obtain ⟨j,hj,rfl⟩:=List.getElem_of_mem hf
 obtain ⟨b,off,e,hb,hc⟩:=h (by omega)
 obtain ⟨cs,hl,hcs,_,hf⟩:=hc j l[j] (List.getElem?_eq_getElem hj)
 exact hf
structure Vn where
 (l:List Mg) (os:List Or) (ns:List order.Nt)
structure Vv where
 (A1:Option Addr) (c1:Nat) (A2:Option Addr) (c2:Nat) (A3:Option Addr) (c3:Nat)
def vc (v:Vv) (s:Vn):Array Value:=#[.slice v.A1 s.l.length v.c1,.slice v.A2 s.os.length v.c2,.slice v.A3 s.ns.length v.c3]
structure InV (w:World) (S:Nat→Prop) (v:Vv) (s:Vn):Prop where
 l:Elems rdMsg 9 w S v.A1 s.l
 o:Elems rdOrder 12 w S v.A2 s.os
 n:Elems rdNt 5 w S v.A3 s.ns
 k1:s.l.length≤v.c1∧v.c1≤maxLen
 k2:s.os.length≤v.c2∧v.c2≤maxLen
 k3:s.ns.length≤v.c3∧v.c3≤maxLen
section
variable {w w' : World} {S S' : Nat→Prop} {v:Vv} {s:Vn}
theorem InV.keep (h:InV w S v s) (ha:Alike S w w') (hS:∀ k,S k→S' k):InV w' S' v s:=⟨h.l.keep keeps_msg ha hS,h.o.keep keeps_order ha hS,h.n.keep keeps_nt ha hS,h.k1,h.k2,h.k3⟩
theorem InV.more (h:InV w S v s) (hS:∀ k,S k→S' k):InV w S' v s:=h.keep (alike_refl _ _) hS
theorem InV.below {B:Nat} (h:InV w (Lt B) v s) (hb:Below B w w'):InV w' (Lt B) v s:=h.keep (below_alike hb) (fun _ h=>h)
theorem InV.all (h:InV w S v s) (hS:∀ k,S k→k < w.heap.size):InV w (Lt w.heap.size) v s:=h.more hS
theorem InV.len (h:InV w S v s):s.l.length≤9223372036854775807∧s.os.length≤9223372036854775807∧s.ns.length≤9223372036854775807:=by
 have h1:=h.k1;have h2:=h.k2;have h3:=h.k3
 unfold maxLen at h1 h2 h3
 omega
theorem keeps_v (s:Vn):Keeps3 (fun w S v=>InV w S v s):=fun w w' S S' b h ha hS=>h.keep ha.alike hS
end
def mName (m:Mg):Bool:=decide (1≤m.i∧m.i≤1000000000000∧0≤m.a∧m.a < 8∧0≤m.y∧m.y < 8∧(m.d=1∨m.d=2)∧0≤m.l∧m.l≤1000000000)
def mAsk (m:Mg):Bool:=decide ((m.k=1∧1≤m.q∧1≤m.p∧m.v=0)∨(m.k=2∧1≤m.q∧1≤m.p∧1≤m.v)∨(m.k=3∧m.q=0∧m.p=0∧m.v=0))
def rightMsg (m:Mg):Bool:=mName m && mAsk m
def mKnow (o:Or):Bool:=decide (¬ o.h=1∧o.m=0∧o.g=false)
def upInbox (l:List Mg) (n:Nat):Prop := ∀ j,j < n→rightMsg (l.getD j mz)=true
def upOrders (l:List Or) (n:Nat):Prop := ∀ j,j < n→order.right (l.getD j oz)=true∧mKnow (l.getD j oz)=true∧(0 < j→(l.getD (j - 1) oz).i < (l.getD j oz).i)
def upNotes (l:List order.Nt) (n:Nat):Prop := ∀ j,j < n→(l.getD j nz).z=(j:Int)+1∧order.noteOk (l.getD j nz)=true
instance (l:List Mg) (n:Nat):Decidable (upInbox l n):=by unfold upInbox;infer_instance
instance (l:List Or) (n:Nat):Decidable (upOrders l n):=by unfold upOrders;infer_instance
instance (l:List order.Nt) (n:Nat):Decidable (upNotes l n):=by unfold upNotes;infer_instance
def inboxOk (l:List Mg):Bool:=decide (l.length≤400∧upInbox l l.length)
def ordersOk (l:List Or):Bool:=decide (l.length≤400∧upOrders l l.length)
def notesOk (l:List order.Nt):Bool:=decide (l.length≤400∧upNotes l l.length)
def right (s:Vn):Bool:=inboxOk s.l && ordersOk s.os && notesOk s.ns
section
variable {n:Nat}
theorem upInbox_0 (l:List Mg):upInbox l 0:=fun j h=>absurd h (by omega)
theorem upInbox_next {l:List Mg} (h:upInbox l n) (h1:rightMsg (l.getD n mz)=true):upInbox l (n+1):=fun j hj=>by
 rcases Nat.lt_or_ge j n with h2 | h2
 ·exact h j h2
 ·obtain rfl:j=n:=by omega
  exact h1
theorem inbox_long {l:List Mg} (h:400 < l.length):inboxOk l=false:=decide_eq_false (fun e=>by omega)
theorem inbox_no {l:List Mg} (hn:n < l.length) (h1:rightMsg (l.getD n mz)=false):inboxOk l=false:=decide_eq_false (fun e=>by rw [e.2 n hn] at h1;cases h1)
theorem inbox_yes {l:List Mg} (hl:¬ 400 < l.length) (h:upInbox l n) (hn:l.length≤n):inboxOk l=true:=decide_eq_true ⟨by omega,fun j hj=>h j (by omega)⟩
theorem upOrders_0 (l:List Or):upOrders l 0:=fun j h=>absurd h (by omega)
theorem upOrders_next {l:List Or} (h:upOrders l n) (h1:order.right (l.getD n oz)=true) (h2:mKnow (l.getD n oz)=true) (h3:0 < n→(l.getD (n - 1) oz).i < (l.getD n oz).i):upOrders l (n+1):=fun j hj=>by
 rcases Nat.lt_or_ge j n with h4 | h4
 ·exact h j h4
 ·obtain rfl:j=n:=by omega
  exact ⟨h1,h2,h3⟩
theorem orders_long {l:List Or} (h:400 < l.length):ordersOk l=false:=decide_eq_false (fun e=>by omega)
theorem orders_no1 {l:List Or} (hn:n < l.length) (h1:order.right (l.getD n oz)=false):ordersOk l=false:=decide_eq_false (fun e=>by rw [(e.2 n hn).1] at h1;cases h1)
theorem orders_no2 {l:List Or} (hn:n < l.length) (h1:mKnow (l.getD n oz)=false):ordersOk l=false:=decide_eq_false (fun e=>by rw [(e.2 n hn).2.1] at h1;cases h1)
theorem orders_no3 {l:List Or} (hn:n < l.length) (h0:0 < n) (h1:¬ (l.getD (n - 1) oz).i < (l.getD n oz).i):ordersOk l=false:=decide_eq_false (fun e=>h1 ((e.2 n hn).2.2 h0))
theorem orders_yes {l:List Or} (hl:¬ 400 < l.length) (h:upOrders l n) (hn:l.length≤n):ordersOk l=true:=decide_eq_true ⟨by omega,fun j hj=>h j (by omega)⟩
theorem upNotes_0 (l:List order.Nt):upNotes l 0:=fun j h=>absurd h (by omega)
theorem upNotes_next {l:List order.Nt} (h:upNotes l n) (h1:(l.getD n nz).z=(n:Int)+1) (h2:order.noteOk (l.getD n nz)=true):upNotes l (n+1):=fun j hj=>by
 rcases Nat.lt_or_ge j n with h4 | h4
 ·exact h j h4
 ·obtain rfl:j=n:=by omega
  exact ⟨h1,h2⟩
theorem notes_long {l:List order.Nt} (h:400 < l.length):notesOk l=false:=decide_eq_false (fun e=>by omega)
theorem notes_no1 {l:List order.Nt} (hn:n < l.length) (h1:¬ (l.getD n nz).z=(n:Int)+1):notesOk l=false:=decide_eq_false (fun e=>h1 (e.2 n hn).1)
theorem notes_no2 {l:List order.Nt} (hn:n < l.length) (h1:order.noteOk (l.getD n nz)=false):notesOk l=false:=decide_eq_false (fun e=>by rw [(e.2 n hn).2] at h1;cases h1)
theorem notes_yes {l:List order.Nt} (hl:¬ 400 < l.length) (h:upNotes l n) (hn:l.length≤n):notesOk l=true:=decide_eq_true ⟨by omega,fun j hj=>h j (by omega)⟩
end
def findV (l:List Or) (id:Int):Int:=if l.findIdx (fun o=>decide (o.i=id)) < l.length then (l.findIdx (fun o=>decide (o.i=id)):Nat) else -1
def noneUp (l:List Or) (id:Int) (n:Nat):Prop := ∀ j,j < n→¬ (l.getD j oz).i=id
section
variable {l:List Or} {id:Int} {n:Nat}
theorem noneUp_0:noneUp l id 0:=fun j h=>absurd h (by omega)
theorem noneUp_next (h:noneUp l id n) (h1:¬ (l.getD n oz).i=id):noneUp l id (n+1):=fun j hj=>by
 rcases Nat.lt_or_ge j n with h4 | h4
 ·exact h j h4
 ·obtain rfl:j=n:=by omega
  exact h1
theorem getD_get {n:Nat} (h:n < l.length):l.getD n oz=l[n]:=by simp [List.getD,List.getElem?_eq_getElem h]
theorem find_yes (hn:n < l.length) (h:noneUp l id n) (h1:(l.getD n oz).i=id):findV l id=(n:Int):=by
 have e:l.findIdx (fun o=>decide (o.i=id))=n:=(List.findIdx_eq hn).2 ⟨by rw [← getD_get hn];exact decide_eq_true h1,fun j hj=>by rw [← getD_get (by omega)];exact decide_eq_false (h j hj)⟩
 unfold findV
 rw [e,if_pos hn]
theorem find_no (h:noneUp l id n) (hn:l.length≤n):findV l id = -1:=by
 unfold findV
 rw [if_neg]
 intro h1
 have:=List.findIdx_getElem (w:=h1)
 exact h (l.findIdx (fun o=>decide (o.i=id))) (by omega) (by rw [getD_get h1];exact of_decide_eq_true this)
theorem find_rng:findV l id = -1∨∃ n:Nat,n < l.length∧findV l id=(n:Int)∧(l.getD n oz).i=id∧noneUp l id n:=by
 unfold findV
 by_cases h:l.findIdx (fun o=>decide (o.i=id)) < l.length
 ·rw [if_pos h]
  refine .inr ⟨_,h,rfl,?_,fun j hj=>?_⟩
  ·have:=List.findIdx_getElem (w:=h)
   rw [getD_get h];exact of_decide_eq_true this
  ·have:=List.not_of_lt_findIdx hj
   rw [getD_get (by omega)]
   simpa using this
 ·rw [if_neg h];exact .inl rfl
theorem find_nat (h:¬ findV l id = -1):findV l id=((findV l id).toNat:Int)∧(findV l id).toNat < l.length∧(l.getD (findV l id).toNat oz).i=id:=by
 rcases find_rng (l:=l) (id:=id) with h1 | ⟨n,h1,h2,h3,_⟩
 ·exact absurd h1 h
 ·rw [h2];exact ⟨by omega,by omega,by rw [Int.toNat_natCast];exact h3⟩
end
end Go.Proofs.Ytcpahggkioagkaa.venue
