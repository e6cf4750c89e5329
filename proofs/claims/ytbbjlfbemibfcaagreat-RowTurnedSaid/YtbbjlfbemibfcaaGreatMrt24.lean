/-
  BookGm, BookCm, BookHm
-/
import Derived.Test.YtbbjlfbemibfcaaGreatMrt17
import Derived.Test.YtbbjlfbemibfcaaGreatMrt09
import Derived.Test.YtbbjlfbemibfcaaGreatMrt23
import Derived.Test.YtbbjlfbemibfcaaGreatMrt04
set_option linter.unusedVariables false
set_option linter.unusedSimpArgs false
section
namespace Go.Proofs.YtbbjlfbemibfcaaGreat.book
set_option maxRecDepth 20000
open Go.RowKit Go.Proofs.YtbbjlfbemibfcaaGreat
open Go.Proofs.YtbbjlfbemibfcaaGreat.order (Or open_ worth)
open Go.Proofs.YtbbjlfbemibfcaaGreat.cell (Ce Ex)
def addV (a b:Int):Int:=if inI (a+b) then a+b else 0
def findI (os:List Or) (id:Int):Int:=match find os id with
 |some k=>(k:Int)
 |none => -1
theorem findI_yes {os:List Or} {id:Int} {k:Nat} (hk:k < os.length) (h:(os.getD k order.oz).i=id) (hn:∀ j,j < k→(os.getD j order.oz).i≠id):findI os id=(k:Int):=by
 have:find os id=some k:=by
  unfold find
  rw [List.findIdx?_eq_some_iff_getElem]
  refine ⟨hk,?_,fun j hj=>?_⟩
  ·simpa [List.getD,List.getElem?_eq_getElem hk] using h
  ·have:=hn j hj
   simpa [List.getD,List.getElem?_eq_getElem (show j < os.length by omega)] using this
 unfold findI
 rw [this]
theorem findI_no {os:List Or} {id:Int} (hn:∀ j,j < os.length→(os.getD j order.oz).i≠id):findI os id = -1:=by
 have:find os id=none:=by
  unfold find
  rw [List.findIdx?_eq_none_iff]
  intro o ho
  obtain ⟨j,hj,rfl⟩:=List.getElem_of_mem ho
  have:=hn j hj
  simpa [List.getD,List.getElem?_eq_getElem hj] using this
 unfold findI
 rw [this]
theorem lt_step {p:Nat→Prop} {k:Nat} (h:∀ j,j < k→p j) (hk:p k):∀ j,j < k+1→p j:=fun j hj=>by
 rcases Nat.lt_or_ge j k with h1 | h1
 ·exact h j h1
 ·rw [show j=k by omega];exact hk
def short (s:St):Bool:=decide (s.os.length≤70∧s.cs.length≤70∧s.ls.length≤70∧s.ps.length≤70)
theorem list_eq {α:Type} {xs ys:List α} {z:α} (hl:xs.length=ys.length) (h:∀ j,j < xs.length→xs.getD j z=ys.getD j z):xs=ys:=by
 apply List.ext_getElem hl
 intro j h1 h2
 have:=h j h1
 simpa [List.getD,List.getElem?_eq_getElem h1,List.getElem?_eq_getElem h2] using this
theorem list_ne {α:Type} {xs ys:List α} {z:α} {j:Nat} (h:¬ xs.getD j z=ys.getD j z):xs≠ys:=fun e=>h (by rw [e])
def newS (a y:Int) (l:Ex) (c:Int):St:=⟨a,y,[],List.replicate (a.toNat * y.toNat) cz,List.replicate (a.toNat * y.toNat) l,List.replicate a.toNat c,false,0,0,0⟩
end Go.Proofs.YtbbjlfbemibfcaaGreat.book
end
section
namespace Go.Proofs.YtbbjlfbemibfcaaGreat.book
set_option maxRecDepth 20000
open Go.RowKit Go.Proofs.YtbbjlfbemibfcaaGreat
open Go.Proofs.YtbbjlfbemibfcaaGreat.order (Or open_ worth oz)
open Go.Proofs.YtbbjlfbemibfcaaGreat.cell (Ce Ex)
def cellsOk (s:St):Bool:=decide (Fits s.a s.y s.os (cellsOf s.y s.os (s.cs.map Ce.p)))
def CL (s:St):List Ce:=cellsOf s.y s.os (s.cs.map Ce.p)
def part (s:St) (i k:Nat):Ce:=cellAt s.y i (s.cs.getD i cz).p (s.os.take k)
def InRange (s:St):Prop:=(1≤s.a∧s.a≤8∧1≤s.y∧s.y≤8)∧(s.cs.length:Int)=s.a * s.y∧∀ o ∈ s.os,order.Rightly o∧o.a < s.a∧o.y < s.y
theorem addV_in (a b:Int):inI (addV a b):=by
 unfold addV;split
 ·assumption
 ·unfold inI;omega
theorem mul_le {a y A Y:Int} (h0:0≤a) (h1:a≤A) (h2:0≤y) (h3:y≤Y):0≤a * y∧a * y≤A * Y :=
 ⟨Int.mul_nonneg h0 h2,Int.le_trans (Int.mul_le_mul_of_nonneg_right h1 h2) (Int.mul_le_mul_of_nonneg_left h3 (by omega))⟩
theorem cs_len {s:St} (hI:InRange s):s.cs.length≤64:=by
 obtain ⟨⟨h1,h2,h3,h4⟩,h5,_⟩:=hI
 have:=mul_le (a:=s.a) (y:=s.y) (A:=8) (Y:=8) (by omega) (by omega) (by omega) (by omega)
 omega
theorem sum_next (w:Or→Int) {os:List Or} {k:Nat} (hk:k < os.length):sum w (os.take (k+1))=sum w (os.take k)+w (os.getD k oz):=by
 unfold sum
 rw [List.take_add_one,at_getD (z:=oz) hk]
 simp
theorem part_zero (s:St) (i:Nat):part s i 0=⟨(s.cs.getD i cz).p,0,0,0⟩:=rfl
theorem part_skip {s:St} {i k:Nat} (hk:k < s.os.length) (h:¬ (s.os.getD k oz).a * s.y+(s.os.getD k oz).y=(i:Int)):part s i (k+1)=part s i k:=by
 have h' : ¬ pl s.y (s.os.getD k oz)=(i:Int):=h
 unfold part cellAt
 rw [sum_next _ hk,sum_next _ hk,sum_next _ hk]
 simp only [wB,wS,wN,h',false_and,if_false,Int.add_zero]
theorem CL_len (s:St):(CL s).length=s.cs.length:=by unfold CL;rw [cells_len,List.length_map]
theorem CL_at {s:St} {i:Nat} (hi:i < s.cs.length):(CL s)[i]?=some (cellAt s.y i (s.cs.getD i cz).p s.os):=by
 refine cells_at ?_
 rw [List.getElem?_map,at_getD (z:=cz) hi];rfl
theorem part_nn {s:St} (hI:InRange s) (i k:Nat):0≤(part s i k).b∧0≤(part s i k).s∧0≤(part s i k).n:=by
 refine ⟨?_,?_,?_⟩
 ·exact sum_nn (fun o ho=>wB_nn (hI.2.2 o (List.mem_of_mem_take ho)).1)
 ·exact sum_nn (fun o ho=>wS_nn (hI.2.2 o (List.mem_of_mem_take ho)).1)
 ·exact sum_nn (fun o ho=>wN_nn (hI.2.2 o (List.mem_of_mem_take ho)).1)
theorem part_le {s:St} (hI:InRange s) (i k:Nat):(part s i k).b≤(cellAt s.y i (s.cs.getD i cz).p s.os).b∧(part s i k).s≤(cellAt s.y i (s.cs.getD i cz).p s.os).s∧(part s i k).n≤(cellAt s.y i (s.cs.getD i cz).p s.os).n:=by
 refine ⟨?_,?_,?_⟩
 ·exact sum_take (fun o ho=>wB_nn (hI.2.2 o ho).1) k
 ·exact sum_take (fun o ho=>wS_nn (hI.2.2 o ho).1) k
 ·exact sum_take (fun o ho=>wN_nn (hI.2.2 o ho).1) k
theorem ok_iff {s:St} : cellsOk s=true ↔ Fits s.a s.y s.os (CL s):=by unfold cellsOk CL;rw [decide_eq_true_eq]
theorem part_fine0 {s:St} {i:Nat} (h:(s.cs.getD i cz).fine):(part s i 0).fine:=by
 rw [part_zero]
 refine ⟨h.1,?_,?_,?_⟩<;>(unfold frame.inR;simp)
theorem acc_reads {w:World} {S:Nat→Prop} {A:Option Addr} {c:Nat} {cs:List Ce} {y:Int} {j:Nat} (h:Elems rdCell 4 w S A cs) (hc:cs.length≤c):Elems rdCell 4 w S (cutAt A c (j * y.toNat) 4) (acc y j cs):=by
 unfold acc
 have h1:=h.cut (j * y.toNat) c hc
 intro h0
 rw [List.length_take] at h0
 obtain ⟨b,off,e,hb,hh⟩:=h1 (by omega)
 refine ⟨b,off,e,hb,fun i x hx=>hh i x ?_⟩
 rw [List.getElem?_take] at hx
 split at hx
 ·exact hx
 ·cases hx
theorem acc_length {cs:List Ce} {y:Int} {j:Nat} (h:(j+1) * y.toNat≤cs.length):(acc y j cs).length=y.toNat:=by
 unfold acc
 rw [List.length_take,List.length_drop,Nat.succ_mul] at *
 omega
theorem acc_rng {s:St} (hI:InRange s) {j:Nat} (hj:(j:Int) < s.a):(j+1) * s.y.toNat≤s.cs.length∧(j:Int) * s.y=((j * s.y.toNat:Nat):Int)∧((j+1:Nat):Int) * s.y=(((j+1) * s.y.toNat:Nat):Int)∧(j+1) * s.y.toNat≤64∧j * s.y.toNat≤(j+1) * s.y.toNat∧(j+1) * s.y.toNat - j * s.y.toNat=s.y.toNat:=by
 obtain ⟨⟨h1,h2,h3,h4⟩,h5,_⟩:=hI
 have hy:((s.y.toNat:Nat):Int)=s.y:=Int.toNat_of_nonneg (by omega)
 have e1:(j:Int) * s.y=((j * s.y.toNat:Nat):Int):=by rw [Int.natCast_mul,hy]
 have e2:((j+1:Nat):Int) * s.y=(((j+1) * s.y.toNat:Nat):Int):=by rw [Int.natCast_mul,hy]
 have h6:=mul_le (a:=((j+1:Nat):Int)) (y:=s.y) (A:=s.a) (Y:=s.y) (by omega) (by omega) (by omega) (by omega)
 have h7:=mul_le (a:=s.a) (y:=s.y) (A:=8) (Y:=8) (by omega) (by omega) (by omega) (by omega)
 have h8:(j+1) * s.y.toNat=j * s.y.toNat+s.y.toNat:=Nat.succ_mul _ _
 refine ⟨by omega,e1,e2,by omega,by omega,by omega⟩
end Go.Proofs.YtbbjlfbemibfcaaGreat.book
end
section
namespace Go.Proofs.YtbbjlfbemibfcaaGreat.book
set_option maxRecDepth 20000
open Go.RowKit Go.Proofs.YtbbjlfbemibfcaaGreat
open Go.Proofs.YtbbjlfbemibfcaaGreat.order (Or Nt open_ worth oz)
open Go.Proofs.YtbbjlfbemibfcaaGreat.cell (Ce Ex)
open Go.Proofs.YtbbjlfbemibfcaaGreat.rec (Rc)
def wv (v:Sv) (A:Option Addr) (c:Nat):Sv:={ v with A1:=A,c1:=c }
def wst (s:St) (os:List Or):St:={ s with os:=os }
theorem _root_.Go.Proofs.YtbbjlfbemibfcaaGreat.InS.later {w w' : World} {v:Sv} {s:St} (h:InS w (Lt w.heap.size) v s) (hb:Below w.heap.size w w'):InS w' (Lt w'.heap.size) v s:=(h.below hb).all (fun b hb'=>Nat.lt_of_lt_of_le hb' hb.size)
theorem put_is (s:St) (os:List Or):put s os = { s with os:=os,cs:=CL (wst s os) }:=rfl
theorem adj_pair {os:List Or} (h:∀ j,j < os.length→0 < j→(os.getD (j - 1) oz).i < (os.getD j oz).i):os.Pairwise (fun o p=>o.i < p.i):=by
 rw [List.pairwise_iff_getElem]
 have key:∀ d i,(hi:i+d+1 < os.length)→(os.getD i oz).i < (os.getD (i+d+1) oz).i:=by
  intro d
  induction d with
  |zero=>intro i hi;have:=h (i+1) hi (by omega);simpa using this
  |succ d ih =>
   intro i hi
   have h1:=ih i (by omega)
   have h2:=h (i+d+1+1) (by omega) (by omega)
   rw [Nat.add_sub_cancel] at h2
   rw [show i+(d+1)+1=i+d+1+1 by omega]
   omega
 intro i j hi hj hij
 have:=key (j - i - 1) i (by omega)
 rw [show i+(j - i - 1)+1=j by omega] at this
 simpa [List.getD,List.getElem?_eq_getElem hi,List.getElem?_eq_getElem hj] using this
theorem mem_getD {α:Type} {xs:List α} {x:α} (z:α) (h:x ∈ xs):∃ j,j < xs.length∧xs.getD j z=x:=by
 obtain ⟨j,hj,e⟩:=List.getElem_of_mem h
 exact ⟨j,hj,by simpa [List.getD,List.getElem?_eq_getElem hj] using e⟩
theorem lim_iff {l:Ex} : limit.right l=true ↔ LimOk l:=by unfold limit.right LimOk;rw [decide_eq_true_eq]
def Lens (s:St):Prop:=(1≤s.a∧s.a≤8∧1≤s.y∧s.y≤8)∧(s.cs.length:Int)=s.a * s.y∧(s.ls.length:Int)=s.a * s.y∧(s.ps.length:Int)=s.a
theorem Lens.range {s:St} (h:Lens s):InRange (wst s []):=⟨h.1,h.2.1,fun o ho=>by simp [wst] at ho⟩
theorem lim_rng {s:St} {a:Int} (hL:Lens s) (ha:0≤a∧a < s.a):a * s.y=((a.toNat * s.y.toNat:Nat):Int)∧(a+1) * s.y=(((a.toNat+1) * s.y.toNat:Nat):Int)∧a.toNat * s.y.toNat≤(a.toNat+1) * s.y.toNat∧(a.toNat+1) * s.y.toNat - a.toNat * s.y.toNat=s.y.toNat∧(a.toNat+1) * s.y.toNat≤s.cs.length∧(a.toNat+1) * s.y.toNat≤64∧s.y.toNat≤8∧1≤s.a∧s.a≤8:=by
 have e:((a.toNat:Nat):Int)=a:=Int.toNat_of_nonneg ha.1
 obtain ⟨h1,h2,h3,h4,h5,h6⟩:=acc_rng hL.range (j:=a.toNat) (by show ((a.toNat:Nat):Int) < s.a;omega)
 have h7:=hL.1
 simp only [wst] at h1 h2 h3 h4 h5 h6
 rw [e] at h2
 rw [show ((a.toNat+1:Nat):Int)=a+1 by omega] at h3
 exact ⟨h2,h3,h5,h6,h1,h4,by omega,h7.1,h7.2.1⟩
def fk (os:List Or) (id:Int):Nat:=(findI os id).toNat
theorem find_lt {os:List Or} {id:Int} (h:¬ findI os id < 0):findI os id=((fk os id:Nat):Int)∧fk os id < os.length∧find os id=some (fk os id):=by
 unfold fk
 unfold findI at *
 cases hf:find os id with
 |none=>rw [hf] at h;simp at h
 |some k =>
  have:=List.findIdx?_eq_some_iff_getElem.1 hf
  simp only [Int.toNat_natCast]
  exact ⟨trivial,this.1,trivial⟩
theorem find_none {os:List Or} {id:Int} (h:findI os id < 0):find os id=none:=by
 unfold findI at h
 cases hf:find os id with
 |none=>rfl
 |some k=>rw [hf] at h;simp at h;omega
theorem Lens.of {s:St} (h:Rightly s):Lens s:=⟨h.1,h.2.1.1,h.2.1.2.1,h.2.1.2.2⟩
theorem begin_is {r:Rc} (hk:r.k=1) (hr:rec.right r=true):order.Rightly (order.begin_ r).1∧(order.begin_ r).1.a=r.a∧(order.begin_ r).1.y=r.y:=by
 have hb:order.begin_ r=(⟨r.o,r.a,r.y,r.d,r.q,r.p,0,1,0,0,0,false⟩,0):=by unfold order.begin_;rw [if_pos ⟨hk,hr⟩]
 have:=(order.begin_right hb).2.2.1
 rw [hb];exact ⟨this,rfl,rfl⟩
section
variable {s:St} {r:Rc} {L:List Or} {a y la:Int}
theorem ask_over (h:cellsOk (wst s L)=false):ask s L a y la=(s,3):=by
 unfold ask;rw [if_neg (fun hf=>by have:=(ok_iff (s:=wst s L)).2 hf;rw [h] at this;cases this)]
theorem ask_lim (h:cellsOk (wst s L)=true) (h2:stands s (put s L) a y=true):ask s L a y la=(s,4):=by
 unfold ask;rw [if_pos (show Fits s.a s.y L (put s L).cs from ok_iff.1 h),if_pos h2]
theorem ask_done (h:cellsOk (wst s L)=true) (h2:stands s (put s L) a y=false):ask s L a y la=({ put s L with last:=la },0):=by
 unfold ask;rw [if_pos (show Fits s.a s.y L (put s L).cs from ok_iff.1 h),if_neg (by rw [h2];decide)]
theorem doing_kill1 (hk:r.k=1) (h:s.k=true):doing s r=(s,5):=by unfold doing;rw [if_pos hk,if_pos h]
theorem doing_full (hk:r.k=1) (h:s.k=false) (h2:64≤s.os.length):doing s r=(s,6):=by unfold doing;rw [if_pos hk,if_neg (by rw [h];decide),if_pos h2]
theorem doing_new (hk:r.k=1) (h:s.k=false) (h2:¬ 64≤s.os.length):doing s r=ask s (s.os++[(order.begin_ r).1]) r.a r.y r.o:=by unfold doing;rw [if_pos hk,if_neg (by rw [h];decide),if_neg h2]
theorem doing_none (hk:r.k=2) (hf:findI s.os r.o < 0):doing s r=(s,7):=by unfold doing;rw [if_neg (by omega),if_pos hk,find_none hf]
theorem doing_not (hk:r.k=2) (hf:¬ findI s.os r.o < 0) (h:¬ (order.change (s.os.getD (fk s.os r.o) oz) r.q r.p).2=0):doing s r=(s,8):=by
 unfold doing;rw [if_neg (by omega),if_pos hk,(find_lt hf).2.2];simp only;rw [if_pos h]
theorem doing_kill2 (hk:r.k=2) (hf:¬ findI s.os r.o < 0) (h:(order.change (s.os.getD (fk s.os r.o) oz) r.q r.p).2=0) (h2:s.k=true):doing s r=(s,5):=by
 unfold doing;rw [if_neg (by omega),if_pos hk,(find_lt hf).2.2];simp only;rw [if_neg (by omega),if_pos h2]
theorem doing_rep (hk:r.k=2) (hf:¬ findI s.os r.o < 0) (h:(order.change (s.os.getD (fk s.os r.o) oz) r.q r.p).2=0) (h2:s.k=false) :
  doing s r=ask s (s.os.set (fk s.os r.o) (order.change (s.os.getD (fk s.os r.o) oz) r.q r.p).1) (s.os.getD (fk s.os r.o) oz).a (s.os.getD (fk s.os r.o) oz).y s.last:=by
 unfold doing;rw [if_neg (by omega),if_pos hk,(find_lt hf).2.2];simp only;rw [if_neg (by omega),if_neg (by rw [h2];decide)]
end
def Sn (S:Nat→Prop) (w w' : World):Nat→Prop:=fun k=>S k∨(w.heap.size≤k∧k < w'.heap.size)
theorem low_in {w w' : World} {S:Nat→Prop} {v:Sv} {s:St} (h:InS w S v s) (hS:∀ k,S k→k < w.heap.size) (hb:Below w.heap.size w w'):InS w' (Sn S w w') v s :=
 h.keep (fun b o hk=>hb.cell (p:=⟨b,o,none⟩) (hS b hk)) (fun _ h=>.inl h)
theorem q_same {w:World} {D:List Fact} {S:Nat→Prop} {v:Sv} {s t:St} {e c:Int} (h:InS w S v s) (hS:∀ k,S k→k < w.heap.size) (hd:(s,e)=(t,c)) :
  ∃ x:Sv,(.tuple #[.agg (stc v s),.int .i64 e]:Value) = .tuple #[.agg (stc x t),.int .i64 c]∧Concl w D (fun w'=>InS w' (Sn S w w') x t):=by
 simp only [Prod.mk.injEq] at hd
 obtain ⟨rfl,rfl⟩:=hd
 exact ⟨v,rfl,fun w' hb _ _=>low_in h hS hb⟩
theorem own_or {w w' : World} {D:List Fact} {S:Nat→Prop} {A:Option Addr} {n c:Nat} {L:List Or} {i:Nat} (hi:D[i]?=some (ownF rdOrder 12 54 A n c L)) (ha:All D w') (hy:∀ f ∈ D,∀ k,f.S k→w.heap.size≤k∧k < w'.heap.size):Elems rdOrder 12 w' (Sn S w w') A L∧n≤c∧c≤maxLen :=
 ⟨own_new keeps_order (by decide) (row_at hi w' ha) (fun k hk=>.inr (hy _ (List.mem_of_getElem? hi) k hk)) (fun h=>h),(row_at hi w' ha).cap⟩
theorem own_ce {w w' : World} {D:List Fact} {S:Nat→Prop} {A:Option Addr} {n c:Nat} {L:List Ce} {i:Nat} (hi:D[i]?=some (ownF rdCell 4 60 A n c L)) (ha:All D w') (hy:∀ f ∈ D,∀ k,f.S k→w.heap.size≤k∧k < w'.heap.size):Elems rdCell 4 w' (Sn S w w') A L∧n≤c∧c≤maxLen :=
 ⟨own_new keeps_cell (by decide) (row_at hi w' ha) (fun k hk=>.inr (hy _ (List.mem_of_getElem? hi) k hk)) (fun h=>h),(row_at hi w' ha).cap⟩
def ntc (n:Nt):Array Value:=#[.int .i64 n.z,.int .i64 n.t,.int .i64 n.o,.int .i64 n.q,.int .i64 n.p]
theorem rec_note {r:Rc} (hr:rec.right r=true) (k6:r.k=6):order.noteOk (nt r)=true:=by
 unfold rec.right rec.may at hr
 rw [Bool.and_eq_true] at hr
 have h2:=hr.1
 simp only [k6,show ¬ (6:Int)=1 by decide,show ¬ (6:Int)=2 by decide,show ¬ (6:Int)=3 by decide,show ¬ (6:Int)=4 by decide,show ¬ (6:Int)=5 by decide,if_false,if_true,Bool.and_eq_true,decide_eq_true_eq,rec.mayOrder] at h2
 exact order.noteOk_iff.2 ⟨h2.1.1,h2.1.2,h2.2⟩
def eo (s:St) (r:Rc):Or:=s.os.getD (fk s.os r.o) oz
def ep (s:St) (r:Rc):Or:=(order.take (eo s r) (nt r)).1
section
variable {s:St} {r:Rc}
theorem ev_gap (h:¬ r.z - 1=s.seq):event s r=(s,11):=by unfold event;rw [if_pos h]
theorem ev_none (h:r.z - 1=s.seq) (hf:findI s.os r.o < 0):event s r=({ s with seq:=r.z },0):=by
 unfold event;rw [if_neg (by omega),find_none hf]
theorem ev_not (h:r.z - 1=s.seq) (hf:¬ findI s.os r.o < 0) (h2:¬ (order.take (eo s r) (nt r)).2=0):event s r=({ s with seq:=r.z },0):=by
 unfold event;rw [if_neg (by omega),(find_lt hf).2.2];simp only;exact if_pos h2
def ev_st (s:St) (r:Rc):St:={ s with seq:=r.z,os:=left_ s.os (fk s.os r.o) (ep s r),cs:=cellsOf s.y (left_ s.os (fk s.os r.o) (ep s r)) (moved s.y (s.cs.map Ce.p) (eo s r) (nt r)) }
theorem ev_yes (h:r.z - 1=s.seq) (hf:¬ findI s.os r.o < 0) (h2:(order.take (eo s r) (nt r)).2=0):event s r=(ev_st s r,0):=by
 unfold event;rw [if_neg (by omega),(find_lt hf).2.2];simp only;exact if_neg (fun h3=>h3 h2)
theorem eo_at (hf:¬ findI s.os r.o < 0):s.os[fk s.os r.o]?=some (eo s r):=at_getD (find_lt hf).2.1
theorem ev_took (h2:(order.take (eo s r) (nt r)).2=0):order.Rightly (eo s r)∧order.Took (eo s r) (nt r) (ep s r):=by
 have:=order.take_ok (o:=eo s r) (n:=nt r) (p:=ep s r) (by unfold ep;rw [← h2])
 exact ⟨this.1,this.2.2.2⟩
theorem ep_same (h2:(order.take (eo s r) (nt r)).2=0):(ep s r).a=(eo s r).a∧(ep s r).y=(eo s r).y∧(ep s r).d=(eo s r).d:=by
 have:=order.took_same (ev_took h2).1 (ev_took h2).2
 exact ⟨this.2.2.2.1,this.2.2.2.2.1,this.2.2.2.2.2.1⟩
theorem ep_fine (hs:s.os.getD (fk s.os r.o) oz |>.fine) (h2:(order.take (eo s r) (nt r)).2=0):(ep s r).fine:=order.take_fine (e:=(order.take (eo s r) (nt r)).2) (o:=eo s r) (n:=nt r) hs rfl
end
theorem rec_kind {r:Rc} (hr:rec.right r=true):1≤r.k∧r.k≤6:=by
 unfold rec.right rec.may at hr
 rw [Bool.and_eq_true] at hr
 have h:=hr.1
 repeat' split at h
 all_goals first | omega | cases h
theorem rec_bound {r:Rc} (hr:rec.right r=true) (k4:r.k=4):0≤r.a∧(¬ r.y = -1→0≤r.y):=by
 unfold rec.right rec.may at hr
 rw [Bool.and_eq_true] at hr
 have h:=hr.1
 rw [if_neg (by omega),if_neg (by omega),if_neg (by omega),if_pos k4,Bool.and_eq_true] at h
 have h1:0≤r.a:=by have:=h.1;unfold rec.mayAcc at this;simp at this;omega
 refine ⟨h1,fun hy=>?_⟩
 have h2:=h.2
 unfold rec.mayBound at h2
 rw [if_neg hy,Bool.and_eq_true] at h2
 have:=h2.1;unfold rec.mayAcc at this;simp at this;omega
section
variable {s:St} {r:Rc}
theorem do_wrong (h:Wrong s r):do_ s r=(s,1):=by unfold do_;rw [if_pos h]
theorem do_no {e:Int} {t:St} (h:¬ Wrong s r) (hd:doing s r=(t,e)) (he:¬ e=0):do_ s r=(s,e):=by unfold do_;rw [if_neg h,hd];exact if_pos he
theorem do_yes {t:St} (h:¬ Wrong s r) (hd:doing s r=(t,0)):do_ s r=({ t with lsn:=s.lsn+1 },0):=by unfold do_;rw [if_neg h,hd];exact if_neg (by simp)
theorem wrong_no (h1:right s=true) (h2:rec.right r=true) (h3:¬ 1000000000≤s.lsn) (h4:r.a < s.a) (h5:r.y < s.y) (h6:r.k=1→s.last < r.o):¬ Wrong s r:=by
 unfold Wrong
 rw [h1,h2]
 simp only [Bool.true_eq_false,false_or,not_or]
 exact ⟨by omega,by omega,by omega,fun h=>by have:=h6 h.1;omega⟩
theorem doing_event (h1:¬ r.k=1) (h2:¬ r.k=2) (h3:¬ r.k=3) (h4:¬ r.k=4) (h5:¬ r.k=5):doing s r=event s r:=by unfold doing;rw [if_neg h1,if_neg h2,if_neg h3,if_neg h4,if_neg h5]
theorem doing_switch (h5:r.k=5):doing s r=({ s with k:=r.on },0):=by unfold doing;rw [if_neg (by omega),if_neg (by omega),if_neg (by omega),if_neg (by omega),if_pos h5]
theorem doing_cap (h4:r.k=4) (hy:r.y = -1):doing s r=({ s with ps:=s.ps.set r.a.toNat r.n },0):=by unfold doing;rw [if_neg (by omega),if_neg (by omega),if_neg (by omega),if_pos h4,if_pos hy]
theorem doing_lim (h4:r.k=4) (hy:¬ r.y = -1):doing s r=({ s with ls:=s.ls.set (place s.y r.a r.y) ⟨r.l,r.s,r.n⟩ },0):=by unfold doing;rw [if_neg (by omega),if_neg (by omega),if_neg (by omega),if_pos h4,if_neg hy]
theorem doing_gone (h3:r.k=3) (hf:findI s.os r.o < 0):doing s r=(s,7):=by unfold doing;rw [if_neg (by omega),if_neg (by omega),if_pos h3,find_none hf]
theorem doing_stop_no (h3:r.k=3) (hf:¬ findI s.os r.o < 0) (h:¬ (order.stop (s.os.getD (fk s.os r.o) oz)).2=0):doing s r=(s,8):=by
 unfold doing;rw [if_neg (by omega),if_neg (by omega),if_pos h3,(find_lt hf).2.2];simp only;exact if_pos h
theorem doing_stop (h3:r.k=3) (hf:¬ findI s.os r.o < 0) (h:(order.stop (s.os.getD (fk s.os r.o) oz)).2=0):doing s r=({ s with os:=s.os.set (fk s.os r.o) (order.stop (s.os.getD (fk s.os r.o) oz)).1 },0):=by
 unfold doing;rw [if_neg (by omega),if_neg (by omega),if_pos h3,(find_lt hf).2.2];simp only;exact if_neg (fun h9=>h9 h)
end
theorem keeps_in (s:St):Keeps3 (fun w S v=>InS w S v s):=fun w w' S S' v h ha hs=>h.keep ha.alike hs
theorem own_ex {w w' : World} {D:List Fact} {S:Nat→Prop} {A:Option Addr} {n c:Nat} {L:List Ex} {i:Nat} (hi:D[i]?=some (ownF rdExpo 3 51 A n c L)) (ha:All D w') (hy:∀ f ∈ D,∀ k,f.S k→w.heap.size≤k∧k < w'.heap.size):Elems rdExpo 3 w' (Sn S w w') A L∧n≤c∧c≤maxLen :=
 ⟨own_new keeps_expo (by decide) (row_at hi w' ha) (fun k hk=>.inr (hy _ (List.mem_of_getElem? hi) k hk)) (fun h=>h),(row_at hi w' ha).cap⟩
theorem own_in {w w' : World} {D:List Fact} {S:Nat→Prop} {A:Option Addr} {n c:Nat} {L:List Int} {i:Nat} (hi:D[i]?=some (ownF (rdInt .i64) 1 2 A n c L)) (ha:All D w') (hy:∀ f ∈ D,∀ k,f.S k→w.heap.size≤k∧k < w'.heap.size):Elems (rdInt .i64) 1 w' (Sn S w w') A L∧n≤c∧c≤maxLen :=
 ⟨own_new (keeps_int _) (by decide) (row_at hi w' ha) (fun k hk=>.inr (hy _ (List.mem_of_getElem? hi) k hk)) (fun h=>h),(row_at hi w' ha).cap⟩
section
variable {w:World} {D:List Fact} {S:Nat→Prop} {v:Sv} {s:St} {t:St × Int}
end
end Go.Proofs.YtbbjlfbemibfcaaGreat.book
end
