/-
  zjq, zjr, zjs, zy9, zdh
-/
import Derived.Test.YtbbjlfbemibfcaaGreatMrr16
import Derived.Test.YtbbjlfbemibfcaaGreatMrr09
import Derived.Test.YtbbjlfbemibfcaaGreatMrr14
import Derived.Test.YtbbjlfbemibfcaaGreatMrr04
import Derived.Test.YtbbjlfbemibfcaaGreatMrr13
import Derived.Test.YtbbjlfbemibfcaaGreatMrr15
set_option linter.unusedVariables false
set_option linter.unusedSimpArgs false
section
namespace Go.Proofs.YtbbjlfbemibfcaaGreat.book
set_option maxRecDepth 20000
open Go.RowKit Go.Proofs.YtbbjlfbemibfcaaGreat
open Go.Proofs.YtbbjlfbemibfcaaGreat.order (Or open_ worth)
open Go.Proofs.YtbbjlfbemibfcaaGreat.cell (Ce Ex)
def mg (a b:Int):Int:=if jq (a+b) then a+b else 0
def yu (a b:Int):Bool:=decide (jq (a+b))
def Aa (os:List Or) (id:Int):Int:=match find os id with
 |some k=>(k:Int)
 |none => -1
theorem qy7 {os:List Or} {id:Int} {k:Nat} (hk:k < os.length) (h:(os.getD k order.oz).i=id) (hn:∀ j,j < k→(os.getD j order.oz).i≠id):Aa os id=(k:Int):=by
 have:find os id=some k:=by
  unfold find
  rw [List.findIdx?_eq_some_iff_getElem]
  refine ⟨hk,?_,fun j hj=>?_⟩
  ·simpa [List.getD,List.getElem?_eq_getElem hk] using h
  ·have:=hn j hj
   simpa [List.getD,List.getElem?_eq_getElem (show j < os.length by omega)] using this
 unfold Aa
 rw [this]
theorem q2a {os:List Or} {id:Int} (hn:∀ j,j < os.length→(os.getD j order.oz).i≠id):Aa os id = -1:=by
 have:find os id=none:=by
  unfold find
  rw [List.findIdx?_eq_none_iff]
  intro o ho
  obtain ⟨j,hj,rfl⟩:=List.getElem_of_mem ho
  have:=hn j hj
  simpa [List.getD,List.getElem?_eq_getElem hj] using this
 unfold Aa
 rw [this]
theorem Gx {p:Nat→Prop} {k:Nat} (h:∀ j,j < k→p j) (hk:p k):∀ j,j < k+1→p j:=fun j hj=>by
 rcases Nat.lt_or_ge j k with h1 | h1
 ·exact h j h1
 ·rw [show j=k by omega];exact hk
def short (s:St):Bool:=decide (s.os.length≤70∧s.cs.length≤70∧s.ls.length≤70∧s.ps.length≤70)
theorem Ox {α:Type} {xs ys:List α} {z:α} (hl:xs.length=ys.length) (h:∀ j,j < xs.length→xs.getD j z=ys.getD j z):xs=ys:=by
 apply List.ext_getElem hl
 intro j h1 h2
 have:=h j h1
 simpa [List.getD,List.getElem?_eq_getElem h1,List.getElem?_eq_getElem h2] using this
theorem P6 {α:Type} {xs ys:List α} {z:α} {j:Nat} (h:¬ xs.getD j z=ys.getD j z):xs≠ys:=fun e=>h (by rw [e])
def newS (a y:Int) (l:Ex) (c:Int):St:=⟨a,y,[],List.replicate (a.toNat * y.toNat) cz,List.replicate (a.toNat * y.toNat) l,List.replicate a.toNat c,false,0,0,0⟩
end Go.Proofs.YtbbjlfbemibfcaaGreat.book
end
section
namespace Go.Proofs.YtbbjlfbemibfcaaGreat.book
set_option maxRecDepth 20000
open Go.RowKit Go.Proofs.YtbbjlfbemibfcaaGreat
open Go.Proofs.YtbbjlfbemibfcaaGreat.order (Or open_ worth oz)
open Go.Proofs.YtbbjlfbemibfcaaGreat.cell (Ce Ex)
def qy (s:St):Bool:=decide (Fits s.a s.y s.os (cellsOf s.y s.os (s.cs.map Ce.p)))
def CL (s:St):List Ce:=cellsOf s.y s.os (s.cs.map Ce.p)
def part (s:St) (i k:Nat):Ce:=cellAt s.y i (s.cs.getD i cz).p (s.os.take k)
def Gf (s:St):Prop:=(1≤s.a∧s.a≤8∧1≤s.y∧s.y≤8)∧(s.cs.length:Int)=s.a * s.y∧∀ o ∈ s.os,order.aj o∧o.a < s.a∧o.y < s.y
theorem Lj (a b:Int):jq (mg a b):=by
 unfold mg;split
 ·assumption
 ·unfold jq;omega
theorem qmw {a b:Int} (h:yu a b=true):mg a b=a+b:=by
 unfold yu at h;unfold mg;rw [if_pos (by simpa using h)]
theorem vg {a y A Y:Int} (h0:0≤a) (h1:a≤A) (h2:0≤y) (h3:y≤Y):0≤a * y∧a * y≤A * Y :=
 ⟨Int.mul_nonneg h0 h2,Int.le_trans (Int.mul_le_mul_of_nonneg_right h1 h2) (Int.mul_le_mul_of_nonneg_left h3 (by omega))⟩
theorem qsq {s:St} (hI:Gf s):s.cs.length≤64:=by
 obtain ⟨⟨h1,h2,h3,h4⟩,h5,_⟩:=hI
 have:=vg (a:=s.a) (y:=s.y) (A:=8) (Y:=8) (by omega) (by omega) (by omega) (by omega)
 omega
theorem qrw {s:St} (hI:Gf s) {k:Nat} (hk:k < s.os.length):order.aj (s.os.getD k oz)∧(s.os.getD k oz).a < s.a∧(s.os.getD k oz).y < s.y:=hI.2.2 _ (l7 hk)
theorem qoz {s:St} (hI:Gf s) {k:Nat} (hk:k < s.os.length):0≤(s.os.getD k oz).a * s.y∧(s.os.getD k oz).a * s.y≤64∧0≤(s.os.getD k oz).a * s.y+(s.os.getD k oz).y∧(s.os.getD k oz).a * s.y+(s.os.getD k oz).y≤72:=by
 obtain ⟨hr,ha,hy⟩:=qrw hI hk
 have h1:=hr.1
 have h2:=hI.1
 have:=vg (a:=(s.os.getD k oz).a) (y:=s.y) (A:=8) (Y:=8) (by omega) (by omega) (by omega) (by omega)
 omega
theorem qy8 {s:St} (hI:Gf s) {o:Or} (ho:o ∈ s.os):0≤pl s.y o∧pl s.y o < s.cs.length:=by
 obtain ⟨hr,ha,hy⟩:=hI.2.2 o ho
 have h1:=hr.1
 have h4:=hI.1
 have h2:=vg (a:=o.a) (y:=s.y) (A:=s.a - 1) (Y:=s.y) (by omega) (by omega) (by omega) (by omega)
 have h3:(s.a - 1) * s.y=s.a * s.y - s.y:=by rw [Int.sub_mul,Int.one_mul]
 have:=hI.2.1
 unfold pl
 omega
theorem qh (w:Or→Int) {os:List Or} {k:Nat} (hk:k < os.length):sum w (os.take (k+1))=sum w (os.take k)+w (os.getD k oz):=by
 unfold sum
 rw [List.take_add_one,ou (z:=oz) hk]
 simp
theorem qq3 (s:St) (i:Nat):part s i 0=⟨(s.cs.getD i cz).p,0,0,0⟩:=rfl
theorem qsr (s:St) {i k:Nat} (hk:s.os.length≤k):part s i k=cellAt s.y i (s.cs.getD i cz).p s.os:=by
 unfold part;rw [List.take_of_length_le hk]
theorem ql9 {s:St} {i k:Nat} (hk:k < s.os.length) (h:¬ (s.os.getD k oz).a * s.y+(s.os.getD k oz).y=(i:Int)):part s i (k+1)=part s i k:=by
 have h' : ¬ pl s.y (s.os.getD k oz)=(i:Int):=h
 unfold part cellAt
 rw [qh _ hk,qh _ hk,qh _ hk]
 simp only [wB,wS,wN,h',false_and,if_false,Int.add_zero]
theorem qss {s:St} {i k:Nat} (hk:k < s.os.length) (h:(s.os.getD k oz).a * s.y+(s.os.getD k oz).y=(i:Int)) (hd:(s.os.getD k oz).d=1)
  (h1:yu (part s i k).n (worth (s.os.getD k oz)).1=true) (h2:yu (part s i k).b (open_ (s.os.getD k oz))=true) :
  part s i (k+1)=⟨(part s i k).p,mg (part s i k).b (open_ (s.os.getD k oz)),(part s i k).s,mg (part s i k).n (worth (s.os.getD k oz)).1⟩:=by
 have h' : pl s.y (s.os.getD k oz)=(i:Int):=h
 rw [qmw h1,qmw h2]
 unfold part cellAt
 rw [qh _ hk,qh _ hk,qh _ hk]
 simp only [wB,wS,wN,h',hd,true_and,and_true,ne_eq,not_true_eq_false,not_false_eq_true,and_false,if_true,if_false,Int.add_zero]
theorem qq4 {s:St} {i k:Nat} (hk:k < s.os.length) (h:(s.os.getD k oz).a * s.y+(s.os.getD k oz).y=(i:Int)) (hd:¬ (s.os.getD k oz).d=1)
  (h1:yu (part s i k).n (worth (s.os.getD k oz)).1=true) (h2:yu (part s i k).s (open_ (s.os.getD k oz))=true) :
  part s i (k+1)=⟨(part s i k).p,(part s i k).b,mg (part s i k).s (open_ (s.os.getD k oz)),mg (part s i k).n (worth (s.os.getD k oz)).1⟩:=by
 have h' : pl s.y (s.os.getD k oz)=(i:Int):=h
 rw [qmw h1,qmw h2]
 unfold part cellAt
 rw [qh _ hk,qh _ hk,qh _ hk]
 simp only [wB,wS,wN,h',hd,true_and,and_true,ne_eq,not_true_eq_false,not_false_eq_true,and_false,if_true,if_false,Int.add_zero]
theorem P7 (s:St):(CL s).length=s.cs.length:=by unfold CL;rw [qij,List.length_map]
theorem qo0 {s:St} {i:Nat} (hi:i < s.cs.length):(CL s)[i]?=some (cellAt s.y i (s.cs.getD i cz).p s.os):=by
 refine qht ?_
 rw [List.getElem?_map,ou (z:=cz) hi];rfl
theorem qvc {s:St} {i k:Nat} (hi:i < s.cs.length) (hk:s.os.length≤k):(CL s).take i++[part s i k]=(CL s).take (i+1):=by
 rw [qsr s hk,List.take_add_one,qo0 hi];rfl
theorem qmx {s:St} (hI:Gf s) (i k:Nat):0≤(part s i k).b∧0≤(part s i k).s∧0≤(part s i k).n:=by
 refine ⟨?_,?_,?_⟩
 ·exact qkn (fun o ho=>qrr (hI.2.2 o (List.mem_of_mem_take ho)).1)
 ·exact qkn (fun o ho=>qrs (hI.2.2 o (List.mem_of_mem_take ho)).1)
 ·exact qkn (fun o ho=>qrt (hI.2.2 o (List.mem_of_mem_take ho)).1)
theorem qmy {s:St} (hI:Gf s) (i k:Nat):(part s i k).b≤(cellAt s.y i (s.cs.getD i cz).p s.os).b∧(part s i k).s≤(cellAt s.y i (s.cs.getD i cz).p s.os).s∧(part s i k).n≤(cellAt s.y i (s.cs.getD i cz).p s.os).n:=by
 refine ⟨?_,?_,?_⟩
 ·exact qn0 (fun o ho=>qrr (hI.2.2 o ho).1) k
 ·exact qn0 (fun o ho=>qrs (hI.2.2 o ho).1) k
 ·exact qn0 (fun o ho=>qrt (hI.2.2 o ho).1) k
theorem Uo {s:St} : qy s=true ↔ Fits s.a s.y s.os (CL s):=by unfold qy CL;rw [decide_eq_true_eq]
theorem qxi {s:St} (h:¬ Fits s.a s.y s.os (CL s)):qy s=false:=by
 cases hc:qy s with
 |false=>rfl
 |true=>exact absurd (Uo.1 hc) h
theorem Xm {s:St} {k:Nat} (hk:k < s.os.length) (h:¬ (worth (s.os.getD k oz)).2=0):qy s=false:=qxi (fun hf=>h (hf.1 _ (l7 hk)))
theorem qlb {s:St} {i:Nat} (hi:i < s.cs.length) (h:¬ ((cellAt s.y i (s.cs.getD i cz).p s.os).fine∧cell.aj (cellAt s.y i (s.cs.getD i cz).p s.os))):qy s=false :=
 qxi (fun hf=>h (hf.2.1 _ (List.mem_of_getElem? (qo0 hi))))
theorem qrx {s:St} (hI:Gf s) {i k:Nat} (hi:i < s.cs.length) (hk:k < s.os.length) (h:(s.os.getD k oz).a * s.y+(s.os.getD k oz).y=(i:Int)) (h1:yu (part s i k).n (worth (s.os.getD k oz)).1=false):qy s=false:=by
 have h' : pl s.y (s.os.getD k oz)=(i:Int):=h
 refine qlb hi (fun hc=>?_)
 have h2:=(qmy hI i (k+1)).2.2
 have h3:=(qmx hI i k).2.2
 have h4:=cell.qji (qrw hI hk).1
 have h5:(part s i (k+1)).n=(part s i k).n+(worth (s.os.getD k oz)).1:=by
  unfold part cellAt;simp only;rw [qh _ hk];simp only [wN,h',if_true]
 have h6:=hc.1.2.2.2
 unfold yu at h1
 unfold frame.jh at h6
 exact (of_decide_eq_false h1) ⟨by omega,by omega⟩
theorem q9r {s:St} (hI:Gf s) {i k:Nat} (hi:i < s.cs.length) (hk:k < s.os.length) (h:(s.os.getD k oz).a * s.y+(s.os.getD k oz).y=(i:Int)) (hd:(s.os.getD k oz).d=1) (h1:yu (part s i k).b (open_ (s.os.getD k oz))=false):qy s=false:=by
 have h' : pl s.y (s.os.getD k oz)=(i:Int):=h
 refine qlb hi (fun hc=>?_)
 have h2:=(qmy hI i (k+1)).1
 have h3:=(qmx hI i k).1
 have h4:=cell.Yk (qrw hI hk).1
 have h5:(part s i (k+1)).b=(part s i k).b+(open_ (s.os.getD k oz)):=by
  unfold part cellAt;simp only;rw [qh _ hk];simp only [wB,h',hd,and_true,true_and,if_true]
 have h6:=hc.1.2.1
 unfold yu at h1
 unfold frame.jh at h6
 exact (of_decide_eq_false h1) ⟨by omega,by omega⟩
theorem q9s {s:St} (hI:Gf s) {i k:Nat} (hi:i < s.cs.length) (hk:k < s.os.length) (h:(s.os.getD k oz).a * s.y+(s.os.getD k oz).y=(i:Int)) (hd:¬ (s.os.getD k oz).d=1) (h1:yu (part s i k).s (open_ (s.os.getD k oz))=false):qy s=false:=by
 have h' : pl s.y (s.os.getD k oz)=(i:Int):=h
 refine qlb hi (fun hc=>?_)
 have h2:=(qmy hI i (k+1)).2.1
 have h3:=(qmx hI i k).2.1
 have h4:=cell.Yk (qrw hI hk).1
 have h5:(part s i (k+1)).s=(part s i k).s+(open_ (s.os.getD k oz)):=by
  unfold part cellAt;simp only;rw [qh _ hk];simp only [wS,h',hd,ne_eq,not_false_eq_true,and_true,true_and,if_true]
 have h6:=hc.1.2.2.1
 unfold yu at h1
 unfold frame.jh at h6
 exact (of_decide_eq_false h1) ⟨by omega,by omega⟩
theorem qy9 {s:St} {i k:Nat} (hi:i < s.cs.length) (hk:s.os.length≤k) (h:cell.right (part s i k)=false):qy s=false:=by
 rw [qsr s hk] at h
 exact qlb hi (fun hc=>cell.jo.1 h hc.2)
theorem qza {s:St} {j:Nat} (hj:(j:Int) < s.a) (h:decide ((limit.whole (acc s.y j (CL s))).2=0)=false):qy s=false :=
 qxi (fun hf=>by
  have:=hf.2.2 j (by simp;omega)
  simp [this] at h)
theorem qxj {s:St} (hI:Gf s) (h1:∀ o ∈ s.os,pl s.y o < (s.cs.length:Int)→(worth o).2=0) (h2:∀ c ∈ CL s,c.fine∧cell.aj c) (h3:∀ j:Nat,(j:Int) < s.a→(limit.whole (acc s.y j (CL s))).2=0):qy s=true :=
 Uo.2 ⟨fun o ho=>h1 o ho (qy8 hI ho).2,h2,fun j hj=>h3 j (by simp at hj;omega)⟩
theorem qo1 {s:St} {i:Nat} (h:(s.cs.getD i cz).fine):(part s i 0).fine:=by
 rw [qq3]
 refine ⟨h.1,?_,?_,?_⟩<;>(unfold frame.jh;simp)
theorem qzb {s:St} {i k:Nat} (hi:i < s.cs.length) (hk:s.os.length≤k) (h:∀ c ∈ (CL s).take i,c.fine∧cell.aj c) (hf:(part s i k).fine) (hr:cell.right (part s i k)=true):∀ c ∈ (CL s).take (i+1),c.fine∧cell.aj c:=by
 rw [← qvc hi hk]
 intro c hc
 rcases List.mem_append.1 hc with h1 | h1
 ·exact h c h1
 ·rw [List.mem_singleton.1 h1];exact ⟨hf,cell.dh.1 hr⟩
theorem qg2 {w:World} {S:Nat→Prop} {A:Option Addr} {c:Nat} {cs:List Ce} {y:Int} {j:Nat} (h:ql gu 4 w S A cs) (hc:cs.length≤c):ql gu 4 w S (cutAt A c (j * y.toNat) 4) (acc y j cs):=by
 unfold acc
 have h1:=h.cut (j * y.toNat) c hc
 intro h0
 rw [List.length_take] at h0
 obtain ⟨b,off,e,hb,hh⟩:=h1 (by omega)
 refine ⟨b,off,e,hb,fun i x hx=>hh i x ?_⟩
 rw [List.getElem?_take] at hx
 split at hx
 ·exact hx
 ·cases hx
theorem qgi {cs:List Ce} {y:Int} {j:Nat} (h:(j+1) * y.toNat≤cs.length):(acc y j cs).length=y.toNat:=by
 unfold acc
 rw [List.length_take,List.length_drop,Nat.succ_mul] at *
 omega
theorem Vp {s:St} (hI:Gf s) {j:Nat} (hj:(j:Int) < s.a):(j+1) * s.y.toNat≤s.cs.length∧(j:Int) * s.y=((j * s.y.toNat:Nat):Int)∧((j+1:Nat):Int) * s.y=(((j+1) * s.y.toNat:Nat):Int)∧(j+1) * s.y.toNat≤64∧j * s.y.toNat≤(j+1) * s.y.toNat∧(j+1) * s.y.toNat - j * s.y.toNat=s.y.toNat:=by
 obtain ⟨⟨h1,h2,h3,h4⟩,h5,_⟩:=hI
 have hy:((s.y.toNat:Nat):Int)=s.y:=Int.toNat_of_nonneg (by omega)
 have e1:(j:Int) * s.y=((j * s.y.toNat:Nat):Int):=by rw [Int.natCast_mul,hy]
 have e2:((j+1:Nat):Int) * s.y=(((j+1) * s.y.toNat:Nat):Int):=by rw [Int.natCast_mul,hy]
 have h6:=vg (a:=((j+1:Nat):Int)) (y:=s.y) (A:=s.a) (Y:=s.y) (by omega) (by omega) (by omega) (by omega)
 have h7:=vg (a:=s.a) (y:=s.y) (A:=8) (Y:=8) (by omega) (by omega) (by omega) (by omega)
 have h8:(j+1) * s.y.toNat=j * s.y.toNat+s.y.toNat:=Nat.succ_mul _ _
 refine ⟨by omega,e1,e2,by omega,by omega,by omega⟩
end Go.Proofs.YtbbjlfbemibfcaaGreat.book
end
section
namespace Go.Proofs.YtbbjlfbemibfcaaGreat.book
set_option maxRecDepth 20000
open Go.RowKit Go.Proofs.YtbbjlfbemibfcaaGreat
open Go.Proofs.YtbbjlfbemibfcaaGreat.order (Or Nt open_ worth oz)
open Go.Proofs.YtbbjlfbemibfcaaGreat.cell (Ce Ex)
open Go.Proofs.YtbbjlfbemibfcaaGreat.rec (Rc)
def wv (v:Sv) (A:Option Addr) (c:Nat):Sv:={ v with A1:=A,c1:=c }
def wst (s:St) (os:List Or):St:={ s with os:=os }
theorem _root_.Go.Proofs.YtbbjlfbemibfcaaGreat.lu.later {w w' : World} {v:Sv} {s:St} (h:lu w (Lt w.heap.size) v s) (hb:Below w.heap.size w w'):lu w' (Lt w'.heap.size) v s:=(h.below hb).all (fun b hb'=>Nat.lt_of_lt_of_le hb' hb.size)
theorem q7z (s:St) (os:List Or):put s os = { s with os:=os,cs:=CL (wst s os) }:=rfl
def okO (s:St) (j:Nat):Prop:=order.right (s.os.getD j oz)=true∧¬ (s.os.getD j oz).h=3∧(s.os.getD j oz).a < s.a∧(s.os.getD j oz).y < s.y∧(s.os.getD j oz).i≤s.last∧(0 < j→(s.os.getD (j - 1) oz).i < (s.os.getD j oz).i)
theorem qst {os:List Or} (h:∀ j,j < os.length→0 < j→(os.getD (j - 1) oz).i < (os.getD j oz).i):os.Pairwise (fun o p=>o.i < p.i):=by
 rw [List.pairwise_iff_getElem]
 have key:∀ d i,(hi:i+d+1 < os.length)→(os.getD i oz).i < (os.getD (i+d+1) oz).i:=by
  intro d
  induction d with
  |zero=>intro i hi;have:=h (i+1) hi (by omega);simpa using this
  |succ d ih =>
   intro i hi
   have h1:=ih i (by omega)
   have h2:=h (i+d+1+1) (by omega) (by omega)
   rw [Nat.add_sub_cancel] at h2
   rw [show i+(d+1)+1=i+d+1+1 by omega]
   omega
 intro i j hi hj hij
 have:=key (j - i - 1) i (by omega)
 rw [show i+(j - i - 1)+1=j by omega] at this
 simpa [List.getD,List.getElem?_eq_getElem hi,List.getElem?_eq_getElem hj] using this
theorem Ur {α:Type} {xs:List α} {x:α} (z:α) (h:x ∈ xs):∃ j,j < xs.length∧xs.getD j z=x:=by
 obtain ⟨j,hj,e⟩:=List.getElem_of_mem h
 exact ⟨j,hj,by simpa [List.getD,List.getElem?_eq_getElem hj] using e⟩
theorem qzc {s:St} (h:∀ j,j < s.os.length→okO s j) (hl:s.os.length≤64):Rl s.a s.y s.last s.os :=
 ⟨fun o ho=>by
  obtain ⟨j,hj,rfl⟩:=Ur oz ho
  have:=h j hj
  exact ⟨order.dh.1 this.1,this.2.1,this.2.2.1,this.2.2.2.1,this.2.2.2.2.1⟩,qst (fun j hj h0=>(h j hj).2.2.2.2.2 h0),hl⟩
theorem qg3 {s:St} {k:Nat} (hk:k < s.os.length) (h:¬ okO s k):right s=false:=jo.2 (fun hr=>h (by
 have ho:=hr.2.2.2.1
 have h1:=ho.1 _ (l7 (z:=oz) hk)
 refine ⟨order.dh.2 h1.1,h1.2.1,h1.2.2.1,h1.2.2.2.1,h1.2.2.2.2,fun h0=>?_⟩
 have h2:=List.pairwise_iff_getElem.1 ho.2.1 (k - 1) k (by omega) hk (by omega)
 simpa [List.getD,List.getElem?_eq_getElem hk,List.getElem?_eq_getElem (show k - 1 < s.os.length by omega)] using h2))
theorem qmz {l:Ex} : limit.right l=true ↔ Yo l:=by unfold limit.right Yo;rw [decide_eq_true_eq]
theorem q5h {s:St} {k:Nat} (hk:k < s.ls.length) (h:limit.right (s.ls.getD k xz)=false):right s=false:=jo.2 (fun hr=>by
 have:=qmz.2 (hr.2.2.2.2.1 _ (l7 (z:=xz) hk))
 rw [this] at h;cases h)
theorem q5i {s:St} {k:Nat} (hk:k < s.ps.length) (h:s.ps.getD k 0 < 0):right s=false:=jo.2 (fun hr=>by
 have:=hr.2.2.2.2.2.1 _ (l7 (z:=0) hk)
 omega)
theorem qzd {s:St} (h:qy s=false):right s=false:=jo.2 (fun hr=>by
 have h1:=hr.2.2.2.2.2.2.1
 rw [hr.2.2.2.2.2.2.2] at h1
 rw [Uo.2 h1] at h;cases h)
theorem q2b {s:St} {k:Nat} (hk:k < s.cs.length) (h:¬ (CL s).getD k cz=s.cs.getD k cz):right s=false:=jo.2 (fun hr=>h (by
 have:=hr.2.2.2.2.2.2.2
 show (cellsOf s.y s.os (s.cs.map Ce.p)).getD k cz=_
 rw [← this]))
theorem qsu {s:St} (h1:1≤s.a∧s.a≤8∧1≤s.y∧s.y≤8) (h2:(s.cs.length:Int)=s.a * s.y) (h:∀ j,j < s.os.length→okO s j):Gf s :=
 ⟨h1,h2,fun o ho=>by
  obtain ⟨j,hj,rfl⟩:=Ur oz ho
  have:=h j hj
  exact ⟨order.dh.1 this.1,this.2.2.1,this.2.2.2.1⟩⟩
theorem qxk {s:St} (h1:1≤s.a∧s.a≤8∧1≤s.y∧s.y≤8) (h2:(s.cs.length:Int)=s.a * s.y∧(s.ls.length:Int)=s.a * s.y∧(s.ps.length:Int)=s.a)
  (h3:0≤s.last∧s.last≤1000000000000∧0≤s.seq) (h3b:s.seq≤1000000000∧0≤s.ng∧s.ng≤1000000000) (h4:s.os.length≤64) (ho:∀ j,j < s.os.length→okO s j) (hl:∀ j,j < s.ls.length→limit.right (s.ls.getD j xz)=true) (hp:∀ j,j < s.ps.length→0≤s.ps.getD j 0) (hc:qy s=true) (he:∀ j,j < s.cs.length→(CL s).getD j cz=s.cs.getD j cz):right s=true:=by
 have e:CL s=s.cs:=Ox (z:=cz) (P7 s) (fun j hj=>he j (by rw [P7] at hj;exact hj))
 have hf:=Uo.1 hc
 refine dh.2 ⟨h1,h2,⟨h3.1,h3.2.1,h3.2.2,h3b.1,h3b.2.1,h3b.2.2⟩,qzc ho h4,fun l hm=>?_,fun c hm=>?_,?_,e.symm⟩
 ·obtain ⟨j,hj,rfl⟩:=Ur xz hm
  exact qmz.1 (hl j hj)
 ·obtain ⟨j,hj,rfl⟩:=Ur 0 hm
  exact hp j hj
 ·rw [e] at hf;exact hf
def Lens (s:St):Prop:=(1≤s.a∧s.a≤8∧1≤s.y∧s.y≤8)∧(s.cs.length:Int)=s.a * s.y∧(s.ls.length:Int)=s.a * s.y∧(s.ps.length:Int)=s.a
theorem Lens.range {s:St} (h:Lens s):Gf (wst s []):=⟨h.1,h.2.1,fun o ho=>by simp [wst] at ho⟩
theorem Us {s:St} {a:Int} (hL:Lens s) (ha:0≤a∧a < s.a):a * s.y=((a.toNat * s.y.toNat:Nat):Int)∧(a+1) * s.y=(((a.toNat+1) * s.y.toNat:Nat):Int)∧a.toNat * s.y.toNat≤(a.toNat+1) * s.y.toNat∧(a.toNat+1) * s.y.toNat - a.toNat * s.y.toNat=s.y.toNat∧(a.toNat+1) * s.y.toNat≤s.cs.length∧(a.toNat+1) * s.y.toNat≤64∧s.y.toNat≤8∧1≤s.a∧s.a≤8:=by
 have e:((a.toNat:Nat):Int)=a:=Int.toNat_of_nonneg ha.1
 obtain ⟨h1,h2,h3,h4,h5,h6⟩:=Vp hL.range (j:=a.toNat) (by show ((a.toNat:Nat):Int) < s.a;omega)
 have h7:=hL.1
 simp only [wst] at h1 h2 h3 h4 h5 h6
 rw [e] at h2
 rw [show ((a.toNat+1:Nat):Int)=a+1 by omega] at h3
 exact ⟨h2,h3,h5,h6,h1,h4,by omega,h7.1,h7.2.1⟩
def fk (os:List Or) (id:Int):Nat:=(Aa os id).toNat
theorem Ak {os:List Or} {id:Int} (h:¬ Aa os id < 0):Aa os id=((fk os id:Nat):Int)∧fk os id < os.length∧find os id=some (fk os id):=by
 unfold fk
 unfold Aa at *
 cases hf:find os id with
 |none=>rw [hf] at h;simp at h
 |some k =>
  have:=List.findIdx?_eq_some_iff_getElem.1 hf
  simp only [Int.toNat_natCast]
  exact ⟨trivial,this.1,trivial⟩
theorem qma {os:List Or} {id:Int} (h:Aa os id < 0):find os id=none:=by
 unfold Aa at h
 cases hf:find os id with
 |none=>rfl
 |some k=>rw [hf] at h;simp at h;omega
theorem Lens.of {s:St} (h:aj s):Lens s:=⟨h.1,h.2.1.1,h.2.1.2.1,h.2.1.2.2⟩
theorem qn3 {r:Rc} (hk:r.k=1) (hr:rec.right r=true):order.aj (order.jl r).1∧(order.jl r).1.a=r.a∧(order.jl r).1.y=r.y:=by
 have hb:order.jl r=(⟨r.o,r.a,r.y,r.d,r.q,r.p,0,1,0,0,0,false⟩,0):=by unfold order.jl;rw [if_pos ⟨hk,hr⟩]
 have:=(order.qnj hb).2.2.1
 rw [hb];exact ⟨this,rfl,rfl⟩
section
variable {s:St} {r:Rc} {L:List Or} {a y la:Int}
theorem qsv (h:qy (wst s L)=false):ask s L a y la=(s,3):=by
 unfold ask;rw [if_neg (fun hf=>by have:=(Uo (s:=wst s L)).2 hf;rw [h] at this;cases this)]
theorem q5j (h:qy (wst s L)=true) (h2:stands s (put s L) a y=true):ask s L a y la=(s,4):=by
 unfold ask;rw [if_pos (show Fits s.a s.y L (put s L).cs from Uo.1 h),if_pos h2]
theorem q2c (h:qy (wst s L)=true) (h2:stands s (put s L) a y=false):ask s L a y la=({ put s L with last:=la },0):=by
 unfold ask;rw [if_pos (show Fits s.a s.y L (put s L).cs from Uo.1 h),if_neg (by rw [h2];decide)]
theorem qup (hk:r.k=1) (h:s.k=true):doing s r=(s,5):=by unfold doing;rw [if_pos hk,if_pos h]
theorem qxl (hk:r.k=1) (h:s.k=false) (h2:64≤s.os.length):doing s r=(s,6):=by unfold doing;rw [if_pos hk,if_neg (by rw [h];decide),if_pos h2]
theorem qq5 (hk:r.k=1) (h:s.k=false) (h2:¬ 64≤s.os.length):doing s r=ask s (s.os++[(order.jl r).1]) r.a r.y r.o:=by unfold doing;rw [if_pos hk,if_neg (by rw [h];decide),if_neg h2]
theorem qxm (hk:r.k=2) (hf:Aa s.os r.o < 0):doing s r=(s,7):=by unfold doing;rw [if_neg (by omega),if_pos hk,qma hf]
theorem qze (hk:r.k=2) (hf:¬ Aa s.os r.o < 0) (h:¬ (order.change (s.os.getD (fk s.os r.o) oz) r.q r.p).2=0):doing s r=(s,8):=by
 unfold doing;rw [if_neg (by omega),if_pos hk,(Ak hf).2.2];simp only;rw [if_pos h]
theorem quq (hk:r.k=2) (hf:¬ Aa s.os r.o < 0) (h:(order.change (s.os.getD (fk s.os r.o) oz) r.q r.p).2=0) (h2:s.k=true):doing s r=(s,5):=by
 unfold doing;rw [if_neg (by omega),if_pos hk,(Ak hf).2.2];simp only;rw [if_neg (by omega),if_pos h2]
theorem qq6 (hk:r.k=2) (hf:¬ Aa s.os r.o < 0) (h:(order.change (s.os.getD (fk s.os r.o) oz) r.q r.p).2=0) (h2:s.k=false) :
  doing s r=ask s (s.os.set (fk s.os r.o) (order.change (s.os.getD (fk s.os r.o) oz) r.q r.p).1) (s.os.getD (fk s.os r.o) oz).a (s.os.getD (fk s.os r.o) oz).y s.last:=by
 unfold doing;rw [if_neg (by omega),if_pos hk,(Ak hf).2.2];simp only;rw [if_neg (by omega),if_neg (by rw [h2];decide)]
end
def Sn (S:Nat→Prop) (w w' : World):Nat→Prop:=fun k=>S k∨(w.heap.size≤k∧k < w'.heap.size)
theorem q70 {w w' : World} {S:Nat→Prop} {v:Sv} {s:St} (h:lu w S v s) (hS:∀ k,S k→k < w.heap.size) (hb:Below w.heap.size w w'):lu w' (Sn S w w') v s :=
 h.keep (fun b o hk=>hb.cell (p:=⟨b,o,none⟩) (hS b hk)) (fun _ h=>.inl h)
theorem qzf {w:World} {D:List Fact} {S:Nat→Prop} {v:Sv} {s t:St} {e c:Int} (h:lu w S v s) (hS:∀ k,S k→k < w.heap.size) (hd:(s,e)=(t,c)) :
  ∃ x:Sv,(.tuple #[.agg (bg v s),.int .i64 e]:Value) = .tuple #[.agg (bg x t),.int .i64 c]∧Gm w D (fun w'=>lu w' (Sn S w w') x t):=by
 simp only [Prod.mk.injEq] at hd
 obtain ⟨rfl,rfl⟩:=hd
 exact ⟨v,rfl,fun w' hb _ _=>q70 h hS hb⟩
theorem q71 {w w' : World} {D:List Fact} {S:Nat→Prop} {A:Option Addr} {n c:Nat} {L:List Or} {i:Nat} (hi:D[i]?=some (ah eu 12 54 A n c L)) (ha:All D w') (hy:∀ f ∈ D,∀ k,f.S k→w.heap.size≤k∧k < w'.heap.size):ql eu 12 w' (Sn S w w') A L∧n≤c∧c≤maxLen :=
 ⟨qmr E9 (by decide) (ji hi w' ha) (fun k hk=>.inr (hy _ (List.mem_of_getElem? hi) k hk)) (fun h=>h),(ji hi w' ha).cap⟩
theorem qzg {w w' : World} {D:List Fact} {S:Nat→Prop} {A:Option Addr} {n c:Nat} {L:List Ce} {i:Nat} (hi:D[i]?=some (ah gu 4 60 A n c L)) (ha:All D w') (hy:∀ f ∈ D,∀ k,f.S k→w.heap.size≤k∧k < w'.heap.size):ql gu 4 w' (Sn S w w') A L∧n≤c∧c≤maxLen :=
 ⟨qmr zn (by decide) (ji hi w' ha) (fun k hk=>.inr (hy _ (List.mem_of_getElem? hi) k hk)) (fun h=>h),(ji hi w' ha).cap⟩
def ntc (n:Nt):Array Value:=#[.int .i64 n.z,.int .i64 n.t,.int .i64 n.o,.int .i64 n.q,.int .i64 n.p]
theorem q2d {r:Rc} (hr:rec.right r=true) (k6:r.k=6):order.Lh (nt r)=true:=by
 unfold rec.right rec.may at hr
 rw [Bool.and_eq_true] at hr
 have h2:=hr.1
 simp only [k6,show ¬ (6:Int)=1 by decide,show ¬ (6:Int)=2 by decide,show ¬ (6:Int)=3 by decide,show ¬ (6:Int)=4 by decide,show ¬ (6:Int)=5 by decide,if_false,if_true,Bool.and_eq_true,decide_eq_true_eq,rec.Ap] at h2
 exact order.Xb.2 ⟨h2.1.1,h2.1.2,h2.2⟩
def eo (s:St) (r:Rc):Or:=s.os.getD (fk s.os r.o) oz
def ep (s:St) (r:Rc):Or:=(order.take (eo s r) (nt r)).1
section
variable {s:St} {r:Rc}
theorem q72 (h:¬ r.z - 1=s.seq):Ot s r=(s,11):=by unfold Ot;rw [if_pos h]
theorem q5k (h:r.z - 1=s.seq) (hf:Aa s.os r.o < 0):Ot s r=({ s with seq:=r.z },0):=by
 unfold Ot;rw [if_neg (by omega),qma hf]
theorem q73 (h:r.z - 1=s.seq) (hf:¬ Aa s.os r.o < 0) (h2:¬ (order.take (eo s r) (nt r)).2=0):Ot s r=({ s with seq:=r.z },0):=by
 unfold Ot;rw [if_neg (by omega),(Ak hf).2.2];simp only;exact if_pos h2
def q4i (s:St) (r:Rc):St:={ s with seq:=r.z,os:=Dq s.os (fk s.os r.o) (ep s r),cs:=cellsOf s.y (Dq s.os (fk s.os r.o) (ep s r)) (moved s.y (s.cs.map Ce.p) (eo s r) (nt r)) }
theorem q74 (h:r.z - 1=s.seq) (hf:¬ Aa s.os r.o < 0) (h2:(order.take (eo s r) (nt r)).2=0):Ot s r=(q4i s r,0):=by
 unfold Ot;rw [if_neg (by omega),(Ak hf).2.2];simp only;exact if_neg (fun h3=>h3 h2)
theorem q4j (hf:¬ Aa s.os r.o < 0):s.os[fk s.os r.o]?=some (eo s r):=ou (Ak hf).2.1
theorem qm0 (h2:(order.take (eo s r) (nt r)).2=0):order.aj (eo s r)∧order.yt (eo s r) (nt r) (ep s r):=by
 have:=order.qpr (o:=eo s r) (n:=nt r) (p:=ep s r) (by unfold ep;rw [← h2])
 exact ⟨this.1,this.2.2.2⟩
theorem qpz (h2:(order.take (eo s r) (nt r)).2=0):(ep s r).a=(eo s r).a∧(ep s r).y=(eo s r).y∧(ep s r).d=(eo s r).d:=by
 have:=order.qj0 (qm0 h2).1 (qm0 h2).2
 exact ⟨this.2.2.2.1,this.2.2.2.2.1,this.2.2.2.2.2.1⟩
theorem q5l (hs:s.os.getD (fk s.os r.o) oz |>.fine) (h2:(order.take (eo s r) (nt r)).2=0):(ep s r).fine:=order.qyn (e:=(order.take (eo s r) (nt r)).2) (o:=eo s r) (n:=nt r) hs rfl
end
theorem q2e {r:Rc} (hr:rec.right r=true):1≤r.k∧r.k≤6:=by
 unfold rec.right rec.may at hr
 rw [Bool.and_eq_true] at hr
 have h:=hr.1
 repeat' split at h
 all_goals first | omega | cases h
theorem qj4 {r:Rc} (hr:rec.right r=true) (k4:r.k=4):0≤r.a∧(¬ r.y = -1→0≤r.y):=by
 unfold rec.right rec.may at hr
 rw [Bool.and_eq_true] at hr
 have h:=hr.1
 rw [if_neg (by omega),if_neg (by omega),if_neg (by omega),if_pos k4,Bool.and_eq_true] at h
 have h1:0≤r.a:=by have:=h.1;unfold rec.Ec at this;simp at this;omega
 refine ⟨h1,fun hy=>?_⟩
 have h2:=h.2
 unfold rec.Na at h2
 rw [if_neg hy,Bool.and_eq_true] at h2
 have:=h2.1;unfold rec.Ec at this;simp at this;omega
section
variable {s:St} {r:Rc}
theorem q2f (h:qc5 s r):do_ s r=(s,1):=by unfold do_;rw [if_pos h]
theorem q9t {e:Int} {t:St} (h:¬ qc5 s r) (hd:doing s r=(t,e)) (he:¬ e=0):do_ s r=(s,e):=by unfold do_;rw [if_neg h,hd];exact if_pos he
theorem qzh {t:St} (h:¬ qc5 s r) (hd:doing s r=(t,0)):do_ s r=({ t with ng:=s.ng+1 },0):=by unfold do_;rw [if_neg h,hd];exact if_neg (by simp)
theorem qsw (h1:right s=true) (h2:rec.right r=true) (h3:¬ 1000000000≤s.ng) (h4:r.a < s.a) (h5:r.y < s.y) (h6:r.k=1→s.last < r.o):¬ qc5 s r:=by
 unfold qc5
 rw [h1,h2]
 simp only [Bool.true_eq_false,false_or,not_or]
 exact ⟨by omega,by omega,by omega,fun h=>by have:=h6 h.1;omega⟩
theorem qur (h1:¬ r.k=1) (h2:¬ r.k=2) (h3:¬ r.k=3) (h4:¬ r.k=4) (h5:¬ r.k=5):doing s r=Ot s r:=by unfold doing;rw [if_neg h1,if_neg h2,if_neg h3,if_neg h4,if_neg h5]
theorem qmb (h5:r.k=5):doing s r=({ s with k:=r.on },0):=by unfold doing;rw [if_neg (by omega),if_neg (by omega),if_neg (by omega),if_neg (by omega),if_pos h5]
theorem qq7 (h4:r.k=4) (hy:r.y = -1):doing s r=({ s with ps:=s.ps.set r.a.toNat r.n },0):=by unfold doing;rw [if_neg (by omega),if_neg (by omega),if_neg (by omega),if_pos h4,if_pos hy]
theorem qq8 (h4:r.k=4) (hy:¬ r.y = -1):doing s r=({ s with ls:=s.ls.set (place s.y r.a r.y) ⟨r.l,r.s,r.n⟩ },0):=by unfold doing;rw [if_neg (by omega),if_neg (by omega),if_neg (by omega),if_pos h4,if_neg hy]
theorem qxn (h3:r.k=3) (hf:Aa s.os r.o < 0):doing s r=(s,7):=by unfold doing;rw [if_neg (by omega),if_neg (by omega),if_pos h3,qma hf]
theorem qro (h3:r.k=3) (hf:¬ Aa s.os r.o < 0) (h:¬ (order.stop (s.os.getD (fk s.os r.o) oz)).2=0):doing s r=(s,8):=by
 unfold doing;rw [if_neg (by omega),if_neg (by omega),if_pos h3,(Ak hf).2.2];simp only;exact if_pos h
theorem qxo (h3:r.k=3) (hf:¬ Aa s.os r.o < 0) (h:(order.stop (s.os.getD (fk s.os r.o) oz)).2=0):doing s r=({ s with os:=s.os.set (fk s.os r.o) (order.stop (s.os.getD (fk s.os r.o) oz)).1 },0):=by
 unfold doing;rw [if_neg (by omega),if_neg (by omega),if_pos h3,(Ak hf).2.2];simp only;exact if_neg (fun h9=>h9 h)
end
theorem qsx (s:St):qyf (fun w S v=>lu w S v s):=fun w w' S S' v h ha hs=>h.keep ha.alike hs
theorem qzi {w w' : World} {D:List Fact} {S:Nat→Prop} {A:Option Addr} {n c:Nat} {L:List Ex} {i:Nat} (hi:D[i]?=some (ah je 3 51 A n c L)) (ha:All D w') (hy:∀ f ∈ D,∀ k,f.S k→w.heap.size≤k∧k < w'.heap.size):ql je 3 w' (Sn S w w') A L∧n≤c∧c≤maxLen :=
 ⟨qmr Fq (by decide) (ji hi w' ha) (fun k hk=>.inr (hy _ (List.mem_of_getElem? hi) k hk)) (fun h=>h),(ji hi w' ha).cap⟩
theorem qzj {w w' : World} {D:List Fact} {S:Nat→Prop} {A:Option Addr} {n c:Nat} {L:List Int} {i:Nat} (hi:D[i]?=some (ah (bf .i64) 1 2 A n c L)) (ha:All D w') (hy:∀ f ∈ D,∀ k,f.S k→w.heap.size≤k∧k < w'.heap.size):ql (bf .i64) 1 w' (Sn S w w') A L∧n≤c∧c≤maxLen :=
 ⟨qmr (pz _) (by decide) (ji hi w' ha) (fun k hk=>.inr (hy _ (List.mem_of_getElem? hi) k hk)) (fun h=>h),(ji hi w' ha).cap⟩
section
variable {w:World} {D:List Fact} {S:Nat→Prop} {v:Sv} {s:St} {t:St × Int}
end
end Go.Proofs.YtbbjlfbemibfcaaGreat.book
end
section
namespace Go.Proofs.YtbbjlfbemibfcaaGreat.book
set_option maxRecDepth 20000
open Go.RowKit Go.Proofs.YtbbjlfbemibfcaaGreat
variable {w0:World} {D:List Fact}
def oh (a b:Int):Int:=if jq (a+b) then 0 else 3
def pq (a b:Int):Int:=if jq (a - b) then 0 else 3
def su (a b:Int):Int:=if jq (a - b) then a - b else 0
def zf (a b:Int):Int:=if jq (a * b) then 0 else 3
def D6 (a b:Int):Int:=if jq (a * b) then a * b else 0
theorem qvd (a b:Int):jq (D6 a b):=by unfold D6;split;assumption;unfold jq;omega
theorem Vq (a b:Int):jq (su a b):=by unfold su;split;assumption;unfold jq;omega
theorem Nz {a b:Int} : oh a b=0 ↔ jq (a+b):=by unfold oh;split<;>simp_all
theorem P8 {a b:Int} : pq a b=0 ↔ jq (a - b):=by unfold pq;split<;>simp_all
theorem qn4 {a b:Int} : zf a b=0 ↔ jq (a * b):=by unfold zf;split<;>simp_all
theorem Rn {a b:Int} (ha:jq a) (hb:jq b):iq Tryz.prog w0 D 95 #[.int .i64 a,.int .i64 b] (.tuple #[.int .i64 (mg a b),.int .i64 (oh a b)]):=by
 unfold mg oh
 by_cases h:jq (a+b)
 ·rw [if_pos h,if_pos h];exact Rf (fun w=>num.qyx a b w ha hb h)
 ·rw [if_neg h,if_neg h];exact Rf (fun w=>num.qsl a b w ha hb h)
theorem Ut {a b:Int} (ha:jq a) (hb:jq b):iq Tryz.prog w0 D 115 #[.int .i64 a,.int .i64 b] (.tuple #[.int .i64 (su a b),.int .i64 (pq a b)]):=by
 unfold su pq
 by_cases h:jq (a - b)
 ·rw [if_pos h,if_pos h];exact Rf (fun w=>num.q7t a b w ha hb h)
 ·rw [if_neg h,if_neg h];exact Rf (fun w=>num.q11 a b w ha hb h)
theorem q4k {a b:Int} (ha:jq a) (hb:jq b):iq Tryz.prog w0 D 133 #[.int .i64 a,.int .i64 b] (.tuple #[.int .i64 (D6 a b),.int .i64 (zf a b)]):=by
 unfold D6 zf
 by_cases h:jq (a * b)
 ·rw [if_pos h,if_pos h];exact Rf (fun w=>num.q7u a b w ha hb h)
 ·rw [if_neg h,if_neg h];exact Rf (fun w=>num.q12 a b w ha hb h)
theorem q4l {a b:Int} (ha:jq a) (hb:jq b):iq Tryz.prog w0 D 134 #[.int .i64 a,.int .i64 b] (.int .i64 (max a b)):=Rf (fun w=>num.q5c a b w ha hb)
end Go.Proofs.YtbbjlfbemibfcaaGreat.book
end
section
namespace Go.Proofs.YtbbjlfbemibfcaaGreat.limit
open Go.RowKit Go.Proofs.YtbbjlfbemibfcaaGreat Go.Proofs.YtbbjlfbemibfcaaGreat.cell Go.Proofs.YtbbjlfbemibfcaaGreat.num
set_option maxRecDepth 20000
def opens (k:Nat) (xs:List Ce):List Int:=(xs.map Ce.n).take k++List.replicate (xs.length - k) 0
theorem qxp (xs:List Ce):opens 0 xs=List.replicate xs.length 0:=rfl
theorem qq9 {xs:List Ce} {k:Nat} (h:xs.length≤k):opens k xs=xs.map Ce.n:=by
 unfold opens
 rw [List.take_of_length_le (by simpa using h),Nat.sub_eq_zero_of_le h]
 simp
theorem qzk {xs:List Ce} {k:Nat} (h:k < xs.length):(opens k xs).set k ((xs.getD k cell.cz).n)=opens (k+1) xs:=by
 unfold opens
 have e:xs.length - k=(xs.length - (k+1))+1:=by omega
 have hl:((xs.map Ce.n).take k).length=k:=by simp;omega
 rw [List.set_append,if_neg (by omega),hl,Nat.sub_self,e,List.replicate_succ,List.set_cons_zero]
 rw [List.take_add_one,List.getElem?_map,ou (z:=cell.cz) h]
 simp
theorem q9u {k:Int} (h:jq k):(Lit.int .i64 k).wf=true:=by
 simpa [Lit.wf,IntKind.min,IntKind.max,IntKind.signed,IntKind.bits,jq] using h
theorem qus {w0:World} {D:List Fact} {j:Nat} {A:Option Addr} {n c:Nat} {ys:List Int} {s e:Int} (h:D[j]?=some (ah (bf .i64) 1 2 A n c ys)) (hy:ys.length=n) (hw:(num.Vh (num.tot 0 ys),num.Pz (num.tot 0 ys))=(s,e)) (hm:n≤100):iq Tryz.prog w0 D 96 #[.slice A n c] (.tuple #[.int .i64 s,.int .i64 e]):=by
 intro w _ ha
 have hi:=(q1n (ji h w ha)).ints
 simp only [Prod.mk.injEq] at hw
 rw [← hw.1,← hw.2]
 exact (num.qyy A n c _ ys w hi hy (by omega)).mono (by rintro e w' ⟨rfl,rfl⟩;exact ⟨rfl,Below.refl _ _⟩)
theorem qx (A:Option Addr) (n c B:Nat) (xs:List Ce) {s e:Int} (w:World) (hx:Cls w B A xs) (hB:B≤w.heap.size) (hn:xs.length=n) (hm:n≤100) (h:whole xs=(s,e))  : Calls Tryz.prog 71 #[.slice A n c] w fun e' w'=>e' = .returned (.tuple #[.int .i64 s,.int .i64 e])∧Below w.heap.size w w' :=
 have hf:∀ k,k < n→jq (xs.getD k cell.cz).n:=fun k hk=>(hx.fine _ (List.mem_of_getElem? (ou (by omega)))).2.2.2
 uw (fn:=Tryz.f71) (r:=.tuple #[.int .i64 s,.int .i64 e]) (t:=.w (Nat) none (fun x=>.slice (some ⟨x,0,none⟩) n n) (fun x=>[oI (some ⟨x,0,none⟩) n n (List.replicate n 0)]) (fun x1=>let k0:Option Addr:=some ⟨x1,0,none⟩; .l (Nat) (fun x=>[(4,.slice k0 n n,none),(10,.slice A n c,none),(11,.int .i64 (n:Int),none),(12,.int .i64 (x:Int),none)]) (fun x=>[]) [] [] (fun x=>[oI k0 n n (opens x xs)]) (fun x=>x≤n) (fun x=>n - x) (0:Nat) (fun y2=>.s (.p (au A) (ay A+y2 * 4) (cell.cc (xs.getD y2 cell.cz)) (.x (.pointer (some ⟨au k0,ay k0+y2 * 1,none⟩)) (.w (Unit) (some 0) (fun x=>undef) (fun x=>[oI k0 n n (opens (y2+1) xs)]) (fun x6=>.e (.int .i64 ((y2+1:Nat):Int)) .z)))) (.c (.tuple #[.int .i64 s,.int .i64 e]) .z)))) (X :=
 let k0:=List.replicate n 0;let k1:Array Value:=#[.int .i64 s,.int .i64 e];let k2:=([]:List (Option jv));jw Tryz.prog w [] (Instr.makeSlice 25 (.int .i64 (n:Int)) (.int .i64 (n:Int))) (fun _=>False) (Nat) (fun x=>.slice (some ⟨x,0,none⟩) n n) (fun x=>[oI (some ⟨x,0,none⟩) n n k0])∧∀ x1:Nat,let k3:Option Addr:=some ⟨x1,0,none⟩;xg w [oI k3 n n k0] []∧((0:Nat)≤n)∧(([.slice k3 n n,.slice A n c,.int .i64 (n:Int),.int .i64 0]:List Value)=[.slice k3 n n,.slice A n c,.int .i64 (n:Int),.int .i64 ((0:Nat):Int)]∧k2=[]∧iw w [oI k3 n n k0] [oI k3 n n (opens (0:Nat) xs)])∧true=true∧∀ (y2:Nat),let k4:List Fact:=[oI k3 n n (opens y2 xs)];let k5:Value:=.pointer (some ⟨au k3,ay k3+y2 * 1,none⟩);let k6:=decide ((y2:Int) < (n:Int));(y2≤n)→∀ τ4:Nat→Value,(k6=true→jd Tryz.prog w k4 (Instr.indexAt 23 (.slice A n c) (.int .i64 (y2:Int))) (.pointer (some ⟨au A,ay A+y2 * 4,none⟩))∧o7 w [] (au A) (ay A+y2 * 4) (cell.cc (xs.getD y2 cell.cz))∧∀ g1:Nat,jd Tryz.prog w k4 (Instr.indexAt 25 (.slice k3 n n) (.int .i64 (y2:Int))) k5∧Hu Tryz.prog w k4 (Instr.storeAt 2 k5 (.int .i64 ((xs.getD y2 cell.cz).n))) ((oI k3 n n (opens y2 xs)).S) (Unit) (fun x=>undef) (fun x=>[oI k3 n n (opens (y2+1) xs)])∧∀ x6:Unit,(.int .i64 (IntKind.i64.wrap ((y2:Int)+1)):Value) = .int .i64 ((y2+1:Nat):Int)∧∃ x' : Nat,(x'≤n)∧(n - x' < n - y2)∧(([.slice k3 n n,.slice A n c,.int .i64 (n:Int),.int .i64 ((y2+1:Nat):Int)]:List Value)=[.slice k3 n n,.slice A n c,.int .i64 (n:Int),.int .i64 (x' : Int)]∧k2=[]∧iw w [oI k3 n n (opens (y2+1) xs)] [oI k3 n n (opens x' xs)])∧true=true)∧(k6=false→iq Tryz.prog w k4 96 #[.slice k3 n n] (.tuple k1)∧(.tuple k1:Value) = .tuple k1)) Tryz.func71 (by kernel_rfl)
 (⟨(qnv Tryz.underlying25 qb0 (by omega) (by unfold maxLen;omega)),fun x1=>⟨(fun w _ _=>zh),(Nat.zero_le _),⟨rfl,rfl,(jm (qmq (by rw [qxp,hn])))⟩,rfl,fun y2 I3 τ4=>⟨fun h5=>have h5:(y2:Int) < (n:Int):=(by simpa using h5)
⟨(yw Tryz.underlying23 yg qa2 hB hx hn (by omega)),(qa0 qa2 hB hx (ou (by rw [hn];exact (by omega)))),fun g1=>⟨(Gn Tryz.underlying25 qb0 (ji (j:=0) rfl) (by omega)),⟨(qu4 (qzk (by omega)) (qlz (ji (j:=0) rfl) (by omega) (q9u (hf _ (by omega))) rfl)),fun x6=>⟨lg (by omega) (by omega) (by omega),⟨((y2+1):Nat),(by omega),(by omega),⟨rfl,rfl,(jm (.cons_cons _ (List.nil_sublist _)))⟩,rfl⟩⟩⟩⟩⟩,
 fun h5=>have h5:¬ (y2:Int) < (n:Int):=(by simpa using h5)
⟨qus (j:=0) rfl (by rw [qq9 (by omega)];simpa using hn) (by rw [qq9 (by omega)];exact h) hm,rfl⟩⟩⟩⟩)
end Go.Proofs.YtbbjlfbemibfcaaGreat.limit
end
