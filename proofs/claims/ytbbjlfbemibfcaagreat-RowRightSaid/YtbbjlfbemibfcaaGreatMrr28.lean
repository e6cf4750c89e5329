/-
  zkj
-/
import Derived.Test.YtbbjlfbemibfcaaGreatMrr27
set_option linter.unusedVariables false
set_option linter.unusedSimpArgs false
namespace Go.Proofs.YtbbjlfbemibfcaaGreat.book
open Go.RowKit Go.Proofs.YtbbjlfbemibfcaaGreat
open Go.Proofs.YtbbjlfbemibfcaaGreat.order (Or open_ worth)
open Go.Proofs.YtbbjlfbemibfcaaGreat.cell (Ce Ex)
open Go.Proofs.YtbbjlfbemibfcaaGreat.rec (Rc)
set_option maxRecDepth 20000
open Go.Proofs.YtbbjlfbemibfcaaGreat.order (oz)
def Gg (a y:Int):Prop:=1≤a∧a≤8∧1≤y∧y≤8
instance (a y:Int):Decidable (Gg a y):=by unfold Gg;infer_instance
def Ij (s:St):Prop:=((s.cs.length:Int)=s.a * s.y∧(s.ls.length:Int)=s.a * s.y∧(s.ps.length:Int)=s.a)∧s.os.length≤64∧0≤s.last∧s.last≤1000000000000∧0≤s.seq∧s.seq≤1000000000∧0≤s.ng∧s.ng≤1000000000
instance (s:St):Decidable (Ij s):=by unfold Ij;infer_instance
theorem qzw {s:St} (hz:Gg s.a s.y):1≤s.a * s.y∧s.a * s.y≤64:=by
 obtain ⟨h1,h2,h3,h4⟩:=hz
 have:=vg (a:=s.a) (y:=s.y) (A:=8) (Y:=8) (by omega) h2 (by omega) h4
 have h5:1 * 1≤s.a * s.y:=Int.mul_le_mul h1 h3 (by omega) (by omega)
 omega
def Qn (s:St):Prop:=(∀ l ∈ s.ls,Yo l)∧∀ c ∈ s.ps,0≤c
instance (s:St):Decidable (Qn s):=by unfold Qn;infer_instance
theorem qzx {s:St} (h1:∀ j,j < s.ls.length→limit.right (s.ls.getD j xz)=true) (h2:∀ j,j < s.ps.length→0≤s.ps.getD j 0):decide (Qn s)=true:=decide_eq_true ⟨fun l hl=>by
  obtain ⟨j,hj,rfl⟩:=Ur xz hl
  exact qmz.1 (h1 j hj),fun c hc=>by
  obtain ⟨j,hj,rfl⟩:=Ur 0 hc
  exact h2 j hj⟩
theorem qzy {s:St} {k:Nat} (hk:k < s.ls.length) (h:limit.right (s.ls.getD k xz)=false):decide (Qn s)=false:=decide_eq_false (fun e=>by
 rw [qmz.2 (e.1 _ (l7 hk))] at h;cases h)
theorem qzz {s:St} {k:Nat} (hk:k < s.ps.length) (h:s.ps.getD k 0 < 0):decide (Qn s)=false:=decide_eq_false (fun e=>by
 have:=e.2 _ (l7 (z:=0) hk);omega)
def There (s:St) (a b:Int):Prop:=0≤a∧a < s.a∧0≤b∧b < s.y
instance (s:St) (a b:Int):Decidable (There s a b):=by unfold There;infer_instance
def Bg (s:St) (a b:Int):Int:=if There s a b then IntKind.i64.wrap (IntKind.i64.wrap (a * s.y)+b) else -1
theorem qg4 {s:St} {a b:Int} (h:¬ There s a b):Bg s a b = -1:=if_neg h
theorem qpa {s:St} {a b:Int} (h:There s a b):Bg s a b=IntKind.i64.wrap (IntKind.i64.wrap (a * s.y)+b):=if_pos h
theorem qim {s:St} {a b:Int} (hz:Gg s.a s.y) (h:There s a b):Bg s a b=a * s.y+b∧0≤a * s.y+b∧a * s.y+b < s.a * s.y∧a * s.y≤64∧0≤a * s.y:=by
 obtain ⟨h1,h2,h3,h4⟩:=hz
 obtain ⟨g1,g2,g3,g4⟩:=h
 have e:=vg (a:=a) (y:=s.y) (A:=s.a - 1) (Y:=s.y) g1 (by omega) (by omega) (by omega)
 have e2:(s.a - 1) * s.y=s.a * s.y - s.y:=by rw [Int.sub_mul,Int.one_mul]
 have e3:=vg (a:=a) (y:=s.y) (A:=8) (Y:=8) g1 (by omega) (by omega) h4
 refine ⟨?_,by omega,by omega,by omega,by omega⟩
 rw [qpa ⟨g1,g2,g3,g4⟩]
 have w1:∀ x:Int,0≤x→x≤1000→IntKind.i64.wrap x=x:=fun x h1 h2=>IntWalk.i64_in x ⟨by omega,by omega⟩
 rw [w1 (a * s.y) (by omega) (by omega),w1 _ (by omega) (by omega)]
theorem qra {s:St} {a b:Int} (hz:Gg s.a s.y) (h:¬ Bg s a b = -1):There s a b:=by
 rcases Decidable.em (There s a b) with h1 | h1
 ·exact h1
 ·exact absurd (qg4 h1) h
theorem qrb {s:St} {o:Or} (hz:Gg s.a s.y) (hr:order.aj o) (ha:o.a < s.a) (hy:o.y < s.y):¬ Bg s o.a o.y = -1∧Bg s o.a o.y=pl s.y o:=by
 have h1:=hr.1
 have:=qim hz (show There s o.a o.y from ⟨by omega,ha,by omega,hy⟩)
 exact ⟨by omega,this.1⟩
def Rq (s:St):Nat→Int
 | 0=>0
 |k+1=>(s.os.getD k oz).i
theorem qp1 {s:St} {j:Nat} (h:0 < j):Rq s j=(s.os.getD (j - 1) oz).i:=by
 cases j with
 |zero=>omega
 |succ j=>rfl
def Y1 (s:St) (j:Nat):Prop:=order.right (s.os.getD j oz)=true∧¬ (s.os.getD j oz).h=3∧(s.os.getD j oz).a < s.a∧(s.os.getD j oz).y < s.y∧(0 < j→(s.os.getD (j - 1) oz).i < (s.os.getD j oz).i)
def Gz (s:St):Prop:=(∀ o ∈ s.os,order.aj o∧o.h≠3∧o.a < s.a∧o.y < s.y∧o.i≤s.last)∧s.os.Pairwise (fun o p=>o.i < p.i)
instance (s:St):Decidable (Gz s):=by unfold Gz;infer_instance
theorem q2u {s:St} (h:∀ j,j < s.os.length→Y1 s j) (hl:Rq s s.os.length≤s.last):decide (Gz s)=true:=by
 have hp:s.os.Pairwise (fun o p=>o.i < p.i):=qst (fun j hj h0=>(h j hj).2.2.2.2 h0)
 refine decide_eq_true ⟨fun o ho=>?_,hp⟩
 obtain ⟨j,hj,rfl⟩:=Ur oz ho
 have hk:=h j hj
 refine ⟨order.dh.1 hk.1,hk.2.1,hk.2.2.1,hk.2.2.2.1,?_⟩
 rw [qp1 (by omega)] at hl
 rcases Nat.lt_or_ge j (s.os.length - 1) with h1 | h1
 ·have:=List.pairwise_iff_getElem.1 hp j (s.os.length - 1) hj (by omega) h1
  simp only [List.getD,List.getElem?_eq_getElem hj,List.getElem?_eq_getElem (show s.os.length - 1 < s.os.length by omega),Option.getD_some] at hl ⊢
  omega
 ·rw [show j=s.os.length - 1 by omega];exact hl
theorem q5z {s:St} (h0:0≤s.last) (hl:s.last < Rq s s.os.length):decide (Gz s)=false:=decide_eq_false (fun e=>by
 rcases Nat.eq_zero_or_pos s.os.length with h1 | h1
 ·rw [h1] at hl;simp only [Rq] at hl;omega
 ·rw [qp1 h1] at hl
  have:=(e.1 _ (l7 (z:=oz) (show s.os.length - 1 < s.os.length by omega))).2.2.2.2
  omega)
theorem qlf {s:St} {k:Nat} (hk:k < s.os.length) (h:¬ Y1 s k):decide (Gz s)=false:=decide_eq_false (fun e=>h (by
 have h1:=e.1 _ (l7 (z:=oz) hk)
 refine ⟨order.dh.2 h1.1,h1.2.1,h1.2.2.1,h1.2.2.2.1,fun h0=>?_⟩
 have h2:=List.pairwise_iff_getElem.1 e.2 (k - 1) k (by omega) hk (by omega)
 simpa [List.getD,List.getElem?_eq_getElem hk,List.getElem?_eq_getElem (show k - 1 < s.os.length by omega)] using h2))
theorem q8m {s:St} {k:Nat} (e:Y1 s k):Rq s k < (s.os.getD k oz).i:=by
 have h:=(order.dh.1 e.1).1
 cases k with
 |zero=>simp only [Rq];omega
 |succ k=>exact e.2.2.2.2 (Nat.succ_pos _)
theorem q8n {s:St} {a:Int} (hL:Lens s) (ha:0≤a∧a < s.a):Bg s a 0=((a.toNat * s.y.toNat:Nat):Int):=by
 have h1:=hL.1
 have:=(qim (s:=s) (a:=a) (b:=0) h1 ⟨ha.1,ha.2,by omega,by omega⟩).1
 rw [this,(Us hL ha).1];omega
def Qo (s:St):Prop := ∀ j ∈ List.range s.a.toNat,(limit.whole (acc s.y j s.cs)).2=0
instance (s:St):Decidable (Qo s):=by unfold Qo;infer_instance
theorem q2v {s:St} (h:∀ j:Nat,j < s.a.toNat→(limit.whole (acc s.y j s.cs)).2=0):decide (Qo s)=true:=decide_eq_true (fun j hj=>h j (by simpa using hj))
theorem q50 {s:St} {j:Nat} (hj:j < s.a.toNat) (h:¬ (limit.whole (acc s.y j s.cs)).2=0):decide (Qo s)=false:=decide_eq_false (fun e=>h (e j (by simpa using hj)))
theorem q4o (a y:Int)  (w:World):Calls Tryz.prog 38 #[.int .i64 a,.int .i64 y] w fun e w'=>e = .returned (.bool (decide (Gg a y)))∧Below w.heap.size w w' :=
 uw (fn:=Tryz.f38) (r:=.bool (decide (Gg a y))) (t:=.s (.k (.s (.k (.s (.k (.s .z .z)) (.k .z))) (.k (.k .z)))) (.k (.k (.k .z)))) (X :=
 let k0:=decide (Gg a y);let k1:=(.bool false:Value);((decide (a ≥ 1))=true→((decide (a≤8))=true→((decide (y ≥ 1))=true→((decide (y≤8))=true→(.bool true:Value) = .bool k0)∧((decide (y≤8))=false→k1 = .bool k0))∧((decide (y ≥ 1))=false→k1 = .bool k0))∧((decide (a≤8))=false→k1 = .bool k0))∧((decide (a ≥ 1))=false→k1 = .bool k0)) Tryz.func38 (by kernel_rfl)
 (⟨fun h1=>have h1:¬ a < 1:=(by simpa using h1)
⟨fun h2=>have h2:¬ 8 < a:=(by simpa using h2)
⟨fun h3=>have h3:¬ y < 1:=(by simpa using h3)
⟨fun h4=>have h4:¬ 8 < y:=(by simpa using h4)
(by congr 1;symm;simp only [decide_eq_true_eq,decide_eq_false_iff_not];unfold Gg;omega),
 fun h4=>have h4:8 < y:=(by simpa using h4)
(by congr 1;symm;simp only [decide_eq_true_eq,decide_eq_false_iff_not];unfold Gg;omega)⟩,
 fun h3=>have h3:y < 1:=(by simpa using h3)
(by congr 1;symm;simp only [decide_eq_true_eq,decide_eq_false_iff_not];unfold Gg;omega)⟩,
 fun h2=>have h2:8 < a:=(by simpa using h2)
(by congr 1;symm;simp only [decide_eq_true_eq,decide_eq_false_iff_not];unfold Gg;omega)⟩,
 fun h1=>have h1:a < 1:=(by simpa using h1)
(by congr 1;symm;simp only [decide_eq_true_eq,decide_eq_false_iff_not];unfold Gg;omega)⟩)
theorem q8o (v:Sv) (s:St)  (w:World) (h:lu w (Lt w.heap.size) v s) (hz:Gg s.a s.y):Calls Tryz.prog 39 #[.agg (bg v s)] w fun e w'=>e = .returned (.bool (decide (Ij s)))∧Below w.heap.size w w' :=
 have hlen:=h.len
 uw (fn:=Tryz.f39) (r:=.bool (decide (Ij s))) (t:=.e (.int .i64 (s.a * s.y)) (.s (.k (.s (.k (.s (.k (.s (.k (.s (.k (.s (.k (.s (.k (.s (.k (.s (.k (.s .z .z)) (.k .z))) (.k (.k .z)))) (.k (.k (.k .z))))) (.k (.k (.k (.k .z)))))) (.k (.k (.k (.k (.k .z))))))) (.k (.k (.k (.k (.k (.k .z)))))))) (.k (.k (.k (.k (.k (.k (.k .z))))))))) (.k (.k (.k (.k (.k (.k (.k (.k .z)))))))))) (.k (.k (.k (.k (.k (.k (.k (.k (.k .z))))))))))) (X :=
 let k0:=decide (Ij s);let k1:=(.bool false:Value);let k2:=decide ((s.cs.length:Int)=(s.a * s.y));let k3:=decide ((s.ls.length:Int)=(s.a * s.y));let k4:=decide ((s.os.length:Int)≤64);let k5:=decide ((s.ps.length:Int)=s.a);let k6:=decide (s.last≤1000000000000);let k7:=decide (s.seq≤1000000000);let k8:=decide (s.ng≤1000000000);let k9:=decide (s.last ≥ 0); ∀ g0:Nat,(.int .i64 (IntKind.i64.wrap (s.a * s.y)):Value) = .int .i64 (s.a * s.y)∧(k2=true→(k3=true→(k5=true→(k4=true→(k9=true→(k6=true→((decide (s.seq ≥ 0))=true→(k7=true→((decide (s.ng ≥ 0))=true→(k8=true→(.bool true:Value) = .bool k0)∧(k8=false→k1 = .bool k0))∧((decide (s.ng ≥ 0))=false→k1 = .bool k0))∧(k7=false→k1 = .bool k0))∧((decide (s.seq ≥ 0))=false→k1 = .bool k0))∧(k6=false→k1 = .bool k0))∧(k9=false→k1 = .bool k0))∧(k4=false→k1 = .bool k0))∧(k5=false→k1 = .bool k0))∧(k3=false→k1 = .bool k0))∧(k2=false→k1 = .bool k0)) Tryz.func39 (by kernel_rfl)
 (fun g0=>⟨lg rfl (by have:=qzw hz;omega) (by have:=qzw hz;omega),⟨fun h1=>have h1:(s.cs.length:Int)=(s.a * s.y):=(by simpa using h1)
⟨fun h2=>have h2:(s.ls.length:Int)=(s.a * s.y):=(by simpa using h2)
⟨fun h3=>have h3:(s.ps.length:Int)=s.a:=(by simpa using h3)
⟨fun h4=>have h4:¬ 64 < (s.os.length:Int):=(by simpa using h4)
⟨fun h5=>have h5:¬ s.last < 0:=(by simpa using h5)
⟨fun h6=>have h6:¬ 1000000000000 < s.last:=(by simpa using h6)
⟨fun h7=>have h7:¬ s.seq < 0:=(by simpa using h7)
⟨fun h8=>have h8:¬ 1000000000 < s.seq:=(by simpa using h8)
⟨fun h9=>have h9:¬ s.ng < 0:=(by simpa using h9)
⟨fun h10=>have h10:¬ 1000000000 < s.ng:=(by simpa using h10)
(by congr 1;symm;simp only [decide_eq_true_eq,decide_eq_false_iff_not];unfold Ij;omega),
 fun h10=>have h10:1000000000 < s.ng:=(by simpa using h10)
(by congr 1;symm;simp only [decide_eq_true_eq,decide_eq_false_iff_not];unfold Ij;omega)⟩,
 fun h9=>have h9:s.ng < 0:=(by simpa using h9)
(by congr 1;symm;simp only [decide_eq_true_eq,decide_eq_false_iff_not];unfold Ij;omega)⟩,
 fun h8=>have h8:1000000000 < s.seq:=(by simpa using h8)
(by congr 1;symm;simp only [decide_eq_true_eq,decide_eq_false_iff_not];unfold Ij;omega)⟩,
 fun h7=>have h7:s.seq < 0:=(by simpa using h7)
(by congr 1;symm;simp only [decide_eq_true_eq,decide_eq_false_iff_not];unfold Ij;omega)⟩,
 fun h6=>have h6:1000000000000 < s.last:=(by simpa using h6)
(by congr 1;symm;simp only [decide_eq_true_eq,decide_eq_false_iff_not];unfold Ij;omega)⟩,
 fun h5=>have h5:s.last < 0:=(by simpa using h5)
(by congr 1;symm;simp only [decide_eq_true_eq,decide_eq_false_iff_not];unfold Ij;omega)⟩,
 fun h4=>have h4:64 < (s.os.length:Int):=(by simpa using h4)
(by congr 1;symm;simp only [decide_eq_true_eq,decide_eq_false_iff_not];unfold Ij;omega)⟩,
 fun h3=>have h3:¬ (s.ps.length:Int)=s.a:=(by simpa using h3)
(by congr 1;symm;simp only [decide_eq_true_eq,decide_eq_false_iff_not];unfold Ij;omega)⟩,
 fun h2=>have h2:¬ (s.ls.length:Int)=(s.a * s.y):=(by simpa using h2)
(by congr 1;symm;simp only [decide_eq_true_eq,decide_eq_false_iff_not];unfold Ij;omega)⟩,
 fun h1=>have h1:¬ (s.cs.length:Int)=(s.a * s.y):=(by simpa using h1)
(by congr 1;symm;simp only [decide_eq_true_eq,decide_eq_false_iff_not];unfold Ij;omega)⟩⟩)
theorem q8p (v:Sv) (s:St)  (w:World) (h:lu w (Lt w.heap.size) v s):Calls Tryz.prog 40 #[.agg (bg v s)] w fun e w'=>e = .returned (.bool (decide (Qn s)))∧Below w.heap.size w w' :=
 have hlen:=h.len
 uw (fn:=Tryz.f40) (r:=.bool (decide (Qn s))) (t:=.l (Nat) (fun x=>[(1,undef,some (0,0)),(8,.slice v.A3 s.ls.length v.c3,none),(9,.int .i64 (s.ls.length:Int),none),(10,.int .i64 (x:Int),none)]) (fun x=>[]) [0] [] (fun x=>[]) (fun x=>x≤s.ls.length∧∀ j,j < x→limit.right (s.ls.getD j xz)=true) (fun x=>s.ls.length - x) (0:Nat) (fun y1=>.s (.p (au v.A3) (ay v.A3+y1 * 3) (cell.xc (s.ls.getD y1 xz)) (.cs (limit.right (s.ls.getD y1 xz)) (.e (.int .i64 ((y1+1:Nat):Int)) .z) .z)) (.l (Nat) (fun x=>[(19,.slice v.A4 s.ps.length v.c4,none),(20,.int .i64 (s.ps.length:Int),none),(21,.int .i64 (x:Int),none)]) (fun x=>[]) [] [] (fun x=>[]) (fun x=>x≤s.ps.length∧∀ j,j < x→0≤s.ps.getD j 0) (fun x=>s.ps.length - x) (0:Nat) (fun y6=>.s (.p (au v.A4) (ay v.A4+y6 * 1) #[.int .i64 (s.ps.getD y6 0)] (.s .z (.e (.int .i64 ((y6+1:Nat):Int)) .z))) .z)))) (X :=
 let k0:=(s.ls.length:Int);let k1:=(s.ps.length:Int);let k2:=decide (Qn s);let k3:=([]:List (Option jv)); ∀ g0:Nat,let k4:=([some ⟨g0,0,(bg v s),.own 27⟩]:List (Option jv));let k5:Option Addr:=some ⟨g0,0,none⟩;xg w [] []∧((0:Nat)≤s.ls.length∧∀ j,j < (0:Nat)→limit.right (s.ls.getD j xz)=true)∧(([.pointer k5,.slice v.A3 s.ls.length v.c3,.int .i64 k0,.int .i64 0]:List Value)=[.pointer k5,.slice v.A3 s.ls.length v.c3,.int .i64 k0,.int .i64 ((0:Nat):Int)]∧k4=[some ⟨g0,0,(bg v s),.own 27⟩]∧iw w [] [])∧true=true∧∀ (y1:Nat),let k6:=s.ls.getD y1 xz;let k7:=limit.right k6;let k8:=decide ((y1:Int) < k0);(y1≤s.ls.length∧∀ j,j < y1→limit.right (s.ls.getD j xz)=true)→∀ τ3:Nat→Value,(k8=true→jd Tryz.prog w [] (Instr.indexAt 24 (.slice v.A3 s.ls.length v.c3) (.int .i64 (y1:Int))) (.pointer (some ⟨au v.A3,ay v.A3+y1 * 3,none⟩))∧o7 w [] (au v.A3) (ay v.A3+y1 * 3) (cell.xc k6)∧∀ g2:Nat,iq Tryz.prog w [] 47 #[.agg (cell.xc k6)] (.bool k7)∧(k7=true→(.int .i64 (IntKind.i64.wrap ((y1:Int)+1)):Value) = .int .i64 ((y1+1:Nat):Int)∧∃ x' : Nat,(x'≤s.ls.length∧∀ j,j < x'→limit.right (s.ls.getD j xz)=true)∧(s.ls.length - x' < s.ls.length - y1)∧(([.pointer k5,.slice v.A3 s.ls.length v.c3,.int .i64 k0,.int .i64 ((y1+1:Nat):Int)]:List Value)=[.pointer k5,.slice v.A3 s.ls.length v.c3,.int .i64 k0,.int .i64 (x' : Int)]∧k4=[some ⟨g0,0,(bg v s),.own 27⟩]∧iw w [] [])∧true=true)∧(k7=false→(.bool false:Value) = .bool k2))∧(k8=false→xg w [] []∧((0:Nat)≤s.ps.length∧∀ j,j < (0:Nat)→0≤s.ps.getD j 0)∧(([.slice v.A4 s.ps.length v.c4,.int .i64 k1,.int .i64 0]:List Value)=[.slice v.A4 s.ps.length v.c4,.int .i64 k1,.int .i64 ((0:Nat):Int)]∧k3=[]∧iw w [] [])∧true=true∧∀ (y6:Nat),let k9:=decide ((s.ps.getD y6 0) < 0);let k10:=decide ((y6:Int) < k1);(y6≤s.ps.length∧∀ j,j < y6→0≤s.ps.getD j 0)→∀ τ8:Nat→Value,(k10=true→jd Tryz.prog w [] (Instr.indexAt 25 (.slice v.A4 s.ps.length v.c4) (.int .i64 (y6:Int))) (.pointer (some ⟨au v.A4,ay v.A4+y6 * 1,none⟩))∧o7 w [] (au v.A4) (ay v.A4+y6 * 1) #[.int .i64 (s.ps.getD y6 0)]∧(k9=true→(.bool false:Value) = .bool k2)∧(k9=false→(.int .i64 (IntKind.i64.wrap ((y6:Int)+1)):Value) = .int .i64 ((y6+1:Nat):Int)∧∃ x' : Nat,(x'≤s.ps.length∧∀ j,j < x'→0≤s.ps.getD j 0)∧(s.ps.length - x' < s.ps.length - y6)∧(([.slice v.A4 s.ps.length v.c4,.int .i64 k1,.int .i64 ((y6+1:Nat):Int)]:List Value)=[.slice v.A4 s.ps.length v.c4,.int .i64 k1,.int .i64 (x' : Int)]∧k3=[]∧iw w [] [])∧true=true))∧(k10=false→(.bool true:Value) = .bool k2))) Tryz.func40 (by kernel_rfl)
 (fun g0=>⟨(fun w _ _=>zh),⟨Nat.zero_le _,fun j hj=>absurd hj (Nat.not_lt_zero j)⟩,⟨rfl,rfl,(jm (List.nil_sublist _))⟩,rfl,fun y1 I2 τ3=>⟨fun h4=>have h4:(y1:Int) < (s.ls.length:Int):=(by simpa using h4)
⟨(yw Tryz.underlying24 Es Gq (Nat.le_refl _) h.l rfl (by omega)),(qa0 Gq (Nat.le_refl _) h.l (ou (by omega))),fun g2=>⟨qs9,fun h5=>⟨lg (by omega) (by omega) (by omega),⟨((y1+1):Nat),⟨by omega,Gx I2.2 h5⟩,(by omega),⟨rfl,rfl,(jm (List.nil_sublist _))⟩,rfl⟩⟩,
 fun h5=>(by rw [qzy (k:=y1) (by omega) h5])⟩⟩,
 fun h4=>have h4:¬ (y1:Int) < (s.ls.length:Int):=(by simpa using h4)
⟨(fun w _ _=>zh),⟨Nat.zero_le _,fun j hj=>absurd hj (Nat.not_lt_zero j)⟩,⟨rfl,rfl,(jm (List.nil_sublist _))⟩,rfl,fun y6 I7 τ8=>⟨fun h9=>have h9:(y6:Int) < (s.ps.length:Int):=(by simpa using h9)
⟨(yw Tryz.underlying25 qb0 Gw (Nat.le_refl _) h.k rfl (by omega)),(qa0 Gw (Nat.le_refl _) h.k (ou (by omega))),⟨fun h10=>have h10:(s.ps.getD y6 0) < 0:=(by simpa using h10)
(by rw [qzz (k:=y6) (by omega) (by omega)]),
 fun h10=>have h10:¬ (s.ps.getD y6 0) < 0:=(by simpa using h10)
⟨lg (by omega) (by omega) (by omega),⟨((y6+1):Nat),⟨by omega,Gx I7.2 (by omega)⟩,(by omega),⟨rfl,rfl,(jm (List.nil_sublist _))⟩,rfl⟩⟩⟩⟩,
 fun h9=>have h9:¬ (y6:Int) < (s.ps.length:Int):=(by simpa using h9)
(by rw [qzx (fun j hj=>I2.2 j (by omega)) (fun j hj=>I7.2 j (by omega))])⟩⟩⟩⟩)
theorem qkp (v:Sv) (s:St) (a b:Int)  (w:World):Calls Tryz.prog 68 #[.agg (bg v s),.int .i64 a,.int .i64 b] w fun e w'=>e = .returned (.int .i64 (Bg s a b))∧Below w.heap.size w w' :=
 uw (fn:=Tryz.f68) (r:=.int .i64 (Bg s a b)) (t:=.s (.k (.k (.k .z))) (.k (.s (.k (.k .z)) (.k (.s (.k .z) (.k (.s .z (.k (.k .z))))))))) (X :=
 let k0:=(.int .i64 (-1):Value);let k1:=Bg s a b; ∀ g0:Nat,((decide (a < 0))=true→k0 = .int .i64 k1)∧((decide (a < 0))=false→((decide (a ≥ s.a))=true→k0 = .int .i64 k1)∧((decide (a ≥ s.a))=false→((decide (b < 0))=true→k0 = .int .i64 k1)∧((decide (b < 0))=false→((decide (b ≥ s.y))=true→k0 = .int .i64 k1)∧((decide (b ≥ s.y))=false→(.int .i64 (IntKind.i64.wrap (IntKind.i64.wrap (a * s.y)+b)):Value) = .int .i64 k1))))) Tryz.func68 (by kernel_rfl)
 (fun g0=>⟨fun h1=>have h1:a < 0:=(by simpa using h1)
(by rw [qg4 (by unfold There;omega)]),
 fun h1=>have h1:¬ a < 0:=(by simpa using h1)
⟨fun h2=>have h2:¬ a < s.a:=(by simpa using h2)
(by rw [qg4 (by unfold There;omega)]),
 fun h2=>have h2:a < s.a:=(by simpa using h2)
⟨fun h3=>have h3:b < 0:=(by simpa using h3)
(by rw [qg4 (by unfold There;omega)]),
 fun h3=>have h3:¬ b < 0:=(by simpa using h3)
⟨fun h4=>have h4:¬ b < s.y:=(by simpa using h4)
(by rw [qg4 (by unfold There;omega)]),
 fun h4=>have h4:b < s.y:=(by simpa using h4)
(by rw [qpa (by unfold There;omega)])⟩⟩⟩⟩)
theorem qxv (v:Sv) (s:St) (id:Int)  (w:World) (h:lu w (Lt w.heap.size) v s):Calls Tryz.prog 103 #[.agg (bg v s),.int .i64 id] w fun e w'=>e = .returned (.int .i64 (Aa s.os id))∧Below w.heap.size w w' :=
 have hlen:=h.len
 uw (fn:=Tryz.f103) (r:=.int .i64 (Aa s.os id)) (t:=.l (Nat) (fun x=>[(1,.int .i64 id,none),(8,.slice v.A1 s.os.length v.c1,none),(9,.int .i64 (s.os.length:Int),none),(10,.int .i64 (x:Int),none)]) (fun x=>[]) [] [] (fun x=>[]) (fun x=>x≤s.os.length∧∀ j,j < x→(s.os.getD j order.oz).i≠id) (fun x=>s.os.length - x) (0:Nat) (fun y1=>.s (.p (au v.A1) (ay v.A1+y1 * 12) (order.oc (s.os.getD y1 order.oz)) (.s .z (.e (.int .i64 ((y1+1:Nat):Int)) .z))) .z)) (X :=
 let k0:=(s.os.length:Int);let k1:=([]:List (Option jv)); ∀ g0:Nat,xg w [] []∧((0:Nat)≤s.os.length∧∀ j,j < (0:Nat)→(s.os.getD j order.oz).i≠id)∧(([.int .i64 id,.slice v.A1 s.os.length v.c1,.int .i64 k0,.int .i64 0]:List Value)=[.int .i64 id,.slice v.A1 s.os.length v.c1,.int .i64 k0,.int .i64 ((0:Nat):Int)]∧k1=[]∧iw w [] [])∧true=true∧∀ (y1:Nat),let k2:=s.os.getD y1 order.oz;let k3:=decide ((y1:Int) < k0);(y1≤s.os.length∧∀ j,j < y1→(s.os.getD j order.oz).i≠id)→∀ τ3:Nat→Value,(k3=true→jd Tryz.prog w [] (Instr.indexAt 22 (.slice v.A1 s.os.length v.c1) (.int .i64 (y1:Int))) (.pointer (some ⟨au v.A1,ay v.A1+y1 * 12,none⟩))∧o7 w [] (au v.A1) (ay v.A1+y1 * 12) (order.oc k2)∧∀ g2:Nat,((decide (k2.i=id))=true→(.int .i64 (y1:Int):Value) = .int .i64 (Aa s.os id))∧((decide (k2.i=id))=false→(.int .i64 (IntKind.i64.wrap ((y1:Int)+1)):Value) = .int .i64 ((y1+1:Nat):Int)∧∃ x' : Nat,(x'≤s.os.length∧∀ j,j < x'→(s.os.getD j order.oz).i≠id)∧(s.os.length - x' < s.os.length - y1)∧(([.int .i64 id,.slice v.A1 s.os.length v.c1,.int .i64 k0,.int .i64 ((y1+1:Nat):Int)]:List Value)=[.int .i64 id,.slice v.A1 s.os.length v.c1,.int .i64 k0,.int .i64 (x' : Int)]∧k1=[]∧iw w [] [])∧true=true))∧(k3=false→(.int .i64 (-1):Value) = .int .i64 (Aa s.os id))) Tryz.func103 (by kernel_rfl)
 (fun g0=>⟨(fun w _ _=>zh),⟨Nat.zero_le _,fun j hj=>absurd hj (Nat.not_lt_zero j)⟩,⟨rfl,rfl,(jm (List.nil_sublist _))⟩,rfl,fun y1 I2 τ3=>⟨fun h4=>have h4:(y1:Int) < (s.os.length:Int):=(by simpa using h4)
⟨(yw Tryz.underlying22 qbd Dv (Nat.le_refl _) h.o rfl (by omega)),(qa0 Dv (Nat.le_refl _) h.o (ou (by omega))),fun g2=>⟨fun h5=>have h5:(s.os.getD y1 order.oz).i=id:=(by simpa using h5)
(by rw [qy7 (k:=y1) (by omega) h5 I2.2]),
 fun h5=>have h5:¬ (s.os.getD y1 order.oz).i=id:=(by simpa using h5)
⟨lg (by omega) (by omega) (by omega),⟨((y1+1):Nat),⟨by omega,Gx I2.2 h5⟩,(by omega),⟨rfl,rfl,(jm (List.nil_sublist _))⟩,rfl⟩⟩⟩⟩,
 fun h4=>have h4:¬ (y1:Int) < (s.os.length:Int):=(by simpa using h4)
(by rw [q2a (fun j hj=>I2.2 j (by omega))])⟩⟩)
theorem q95 (v:Sv) (s:St)  (w:World) (h:lu w (Lt w.heap.size) v s) (hz:Gg s.a s.y) (hl0:0≤s.last):Calls Tryz.prog 41 #[.agg (bg v s)] w fun e w'=>e = .returned (.bool (decide (Gz s)))∧Below w.heap.size w w' :=
 have hlen:=h.len
 uw (fn:=Tryz.f41) (r:=.bool (decide (Gz s))) (t:=.l (Nat) (fun x=>[(1,undef,some (0,0)),(3,.int .i64 (Rq s x),none),(7,.slice v.A1 s.os.length v.c1,none),(8,.int .i64 (s.os.length:Int),none),(9,.int .i64 (x:Int),none)]) (fun x=>[]) [0] [] (fun x=>[]) (fun x=>x≤s.os.length∧∀ j,j < x→Y1 s j) (fun x=>s.os.length - x) (0:Nat) (fun y1=>let k0:=s.os.getD y1 order.oz; .s (.p (au v.A1) (ay v.A1+y1 * 12) (order.oc k0) (.cs (order.right k0) (.k (.s (.k (.k .z)) (.k (.c (.int .i64 (Bg s (k0.a) (k0.y))) (.s (.k .z) (.k (.s .z (.e (.int .i64 ((y1+1:Nat):Int)) .z)))))))) (.k (.k (.k .z))))) (.s .z .z))) (X :=
 let k0:=(s.os.length:Int);let k1:=decide (Gz s);let k2:=(.bool false:Value); ∀ g0:Nat,let k3:=([some ⟨g0,0,(bg v s),.own 27⟩]:List (Option jv));let k4:Option Addr:=some ⟨g0,0,none⟩;xg w [] []∧((0:Nat)≤s.os.length∧∀ j,j < (0:Nat)→Y1 s j)∧(([.pointer k4,.int .i64 0,.slice v.A1 s.os.length v.c1,.int .i64 k0,.int .i64 0]:List Value)=[.pointer k4,.int .i64 (Rq s (0:Nat)),.slice v.A1 s.os.length v.c1,.int .i64 k0,.int .i64 ((0:Nat):Int)]∧k3=[some ⟨g0,0,(bg v s),.own 27⟩]∧iw w [] [])∧true=true∧∀ (y1:Nat),let k5:=s.os.getD y1 order.oz;let k6:=Bg s (k5.a) (k5.y);let k7:=decide ((Rq s y1)≤s.last);let k8:=order.right k5;let k9:=decide (k5.i≤(Rq s y1));let k10:=decide ((y1:Int) < k0);(y1≤s.os.length∧∀ j,j < y1→Y1 s j)→∀ τ3:Nat→Value,(k10=true→jd Tryz.prog w [] (Instr.indexAt 22 (.slice v.A1 s.os.length v.c1) (.int .i64 (y1:Int))) (.pointer (some ⟨au v.A1,ay v.A1+y1 * 12,none⟩))∧o7 w [] (au v.A1) (ay v.A1+y1 * 12) (order.oc k5)∧∀ g2:Nat,iq Tryz.prog w [] 67 #[.agg (order.oc k5)] (.bool k8)∧(k8=true→((decide (k5.h=3))=true→k2 = .bool k1)∧((decide (k5.h=3))=false→iq Tryz.prog w [] 68 #[.agg (bg v s),.int .i64 (k5.a),.int .i64 (k5.y)] (.int .i64 k6)∧((decide (k6=(-1)))=true→k2 = .bool k1)∧((decide (k6=(-1)))=false→(k9=true→k2 = .bool k1)∧(k9=false→(.int .i64 (IntKind.i64.wrap ((y1:Int)+1)):Value) = .int .i64 ((y1+1:Nat):Int)∧∃ x' : Nat,(x'≤s.os.length∧∀ j,j < x'→Y1 s j)∧(s.os.length - x' < s.os.length - y1)∧(([.pointer k4,.int .i64 (k5.i),.slice v.A1 s.os.length v.c1,.int .i64 k0,.int .i64 ((y1+1:Nat):Int)]:List Value)=[.pointer k4,.int .i64 (Rq s x'),.slice v.A1 s.os.length v.c1,.int .i64 k0,.int .i64 (x' : Int)]∧k3=[some ⟨g0,0,(bg v s),.own 27⟩]∧iw w [] [])∧true=true))))∧(k8=false→k2 = .bool k1))∧(k10=false→(k7=true→(.bool true:Value) = .bool k1)∧(k7=false→k2 = .bool k1))) Tryz.func41 (by kernel_rfl)
 (fun g0=>⟨(fun w _ _=>zh),⟨Nat.zero_le _,fun j hj=>absurd hj (Nat.not_lt_zero j)⟩,⟨rfl,rfl,(jm (List.nil_sublist _))⟩,rfl,fun y1 I2 τ3=>⟨fun h4=>have h4:(y1:Int) < (s.os.length:Int):=(by simpa using h4)
⟨(yw Tryz.underlying22 qbd Dv (Nat.le_refl _) h.o rfl (by omega)),(qa0 Dv (Nat.le_refl _) h.o (ou (by omega))),fun g2=>⟨qn6 (Bh h.o _ (l7 (by omega))),fun h5=>⟨fun h6=>have h6:(s.os.getD y1 order.oz).h=3:=(by simpa using h6)
(by rw [qlf (k:=y1) (by omega) (fun e=>by have:=e.2.1;omega)]),
 fun h6=>have h6:¬ (s.os.getD y1 order.oz).h=3:=(by simpa using h6)
⟨gives (qkp _ _ _ _),⟨fun h7=>have h7:(Bg s ((s.os.getD y1 order.oz).a) ((s.os.getD y1 order.oz).y))=(-1):=(by simpa using h7)
(by rw [qlf (k:=y1) (by omega) (fun e=>(qrb hz (order.dh.1 h5) e.2.2.1 e.2.2.2.1).1 h7)]),
 fun h7=>have h7:¬ (Bg s ((s.os.getD y1 order.oz).a) ((s.os.getD y1 order.oz).y))=(-1):=(by simpa using h7)
⟨fun h8=>have h8:¬ (Rq s y1) < (s.os.getD y1 order.oz).i:=(by simpa using h8)
(by rw [qlf (k:=y1) (by omega) (fun e=>by have:=q8m e;omega)]),
 fun h8=>have h8:(Rq s y1) < (s.os.getD y1 order.oz).i:=(by simpa using h8)
⟨lg (by omega) (by omega) (by omega),⟨((y1+1):Nat),⟨by omega,Gx I2.2 ⟨h5,by omega,(qra hz h7).2.1,(qra hz h7).2.2.2,fun h0=>by have:=qp1 (s:=s) h0;omega⟩⟩,(by omega),⟨rfl,rfl,(jm (List.nil_sublist _))⟩,rfl⟩⟩⟩⟩⟩⟩,
 fun h5=>(by rw [qlf (k:=y1) (by omega) (fun e=>by have:=e.1;rw [h5] at this;cases this)])⟩⟩,
 fun h4=>have h4:¬ (y1:Int) < (s.os.length:Int):=(by simpa using h4)
⟨fun h9=>have h9:¬ s.last < (Rq s y1):=(by simpa using h9)
(by rw [q2u (fun j hj=>I2.2 j (by omega)) (by rw [show s.os.length=y1 by omega];omega)]),
 fun h9=>have h9:s.last < (Rq s y1):=(by simpa using h9)
(by rw [q5z hl0 (by rw [show s.os.length=y1 by omega];omega)])⟩⟩⟩)
theorem qpb (v:Sv) (s:St) (a:Int)  (w:World) (h:lu w (Lt w.heap.size) v s) (hL:Lens s) (ha:0≤a∧a < s.a):Calls Tryz.prog 72 #[.agg (bg v s),.int .i64 a] w fun e w'=>e = .returned (.slice (cutAt v.A2 v.c2 (a.toNat * s.y.toNat) 4) s.y.toNat (v.c2 - (a.toNat * s.y.toNat)))∧Below w.heap.size w w' :=
 have hlen:=h.len
 have hac:=Us hL ha
 have hL1:=hL.1
 uw (fn:=Tryz.f72) (r:=.slice (cutAt v.A2 v.c2 (a.toNat * s.y.toNat) 4) s.y.toNat (v.c2 - (a.toNat * s.y.toNat))) (t:=let k0:=a.toNat * s.y.toNat; .c (.int .i64 ((a.toNat * s.y.toNat:Nat):Int)) (.e (.int .i64 ((k0+s.y.toNat:Nat):Int)) (.x (.slice (cutAt v.A2 v.c2 k0 4) s.y.toNat (v.c2 - k0)) .z))) (X :=
 let k0:=a.toNat * s.y.toNat;let k1:=((a.toNat * s.y.toNat:Nat):Int);let k2:=cutAt v.A2 v.c2 k0 4;let k3:=((k0+s.y.toNat:Nat):Int); ∀ g0:Nat,iq Tryz.prog w [] 68 #[.agg (bg v s),.int .i64 a,.int .i64 0] (.int .i64 k1)∧(.int .i64 (IntKind.i64.wrap (k1+s.y)):Value) = .int .i64 k3∧jd Tryz.prog w [] (Instr.sliceAt 23 (.slice v.A2 s.cs.length v.c2) (some (.int .i64 k1)) (some (.int .i64 k3)) none) (.slice k2 s.y.toNat (v.c2 - k0))∧(.slice k2 s.y.toNat (v.c2 - k0):Value) = .slice k2 s.y.toNat (v.c2 - k0)) Tryz.func72 (by kernel_rfl)
 (fun g0=>⟨gives (fun w=>by have:=qkp v s a 0 w;rw [q8n hL ha] at this;exact this),⟨lg (by omega) (by omega) (by omega),⟨(fun w _ _=>by have:=qjw Tryz.underlying23 yg v.A2 s.cs.length v.c2 (a.toNat * s.y.toNat) ((a.toNat * s.y.toNat)+s.y.toNat) rfl rfl (Nat.le_add_right _ _) (Nat.le_trans (by have:=hac.2.2.2.2.1;rw [Nat.succ_mul] at this;exact this) h.nc.1) w;rw [Nat.add_sub_cancel_left] at this;exact this),rfl⟩⟩⟩)
theorem q96 (v:Sv) (s:St)  (w:World) (h:lu w (Lt w.heap.size) v s) (hL:Lens s):Calls Tryz.prog 43 #[.agg (bg v s)] w fun e w'=>e = .returned (.bool (decide (Qo s)))∧Below w.heap.size w w' :=
 have hlen:=h.len
 have hL1:=hL.1
 uw (fn:=Tryz.f43) (r:=.bool (decide (Qo s))) (t:=.l (Nat) (fun x=>[(1,undef,some (0,0)),(7,.int .i64 s.a,none),(8,.int .i64 (x:Int),none)]) (fun x=>[]) [0] [] (fun x=>[]) (fun x=>(x:Int)≤s.a∧∀ j:Nat,j < x→(limit.whole (acc s.y j s.cs)).2=0) (fun x=>s.a.toNat - x) (0:Nat) (fun y1=>let k0:=limit.whole (acc s.y (y1:Int).toNat s.cs); .s (.c (.slice (cutAt v.A2 v.c2 ((y1:Int).toNat * s.y.toNat) 4) s.y.toNat (v.c2 - (y1:Int).toNat * s.y.toNat)) (.c (.tuple #[.int .i64 (k0.1),.int .i64 (k0.2)]) (.s .z (.e (.int .i64 ((y1+1:Nat):Int)) .z)))) .z)) (X :=
∀ g0:Nat,let k0:=([some ⟨g0,0,(bg v s),.own 27⟩]:List (Option jv));let k1:Option Addr:=some ⟨g0,0,none⟩;xg w [] []∧(((0:Nat):Int)≤s.a∧∀ j:Nat,j < (0:Nat)→(limit.whole (acc s.y j s.cs)).2=0)∧(([.pointer k1,.int .i64 s.a,.int .i64 0]:List Value)=[.pointer k1,.int .i64 s.a,.int .i64 ((0:Nat):Int)]∧k0=[some ⟨g0,0,(bg v s),.own 27⟩]∧iw w [] [])∧true=true∧∀ (y1:Nat),let k2:=limit.whole (acc s.y (y1:Int).toNat s.cs);let k3:=cutAt v.A2 v.c2 ((y1:Int).toNat * s.y.toNat) 4;let k4:=v.c2 - (y1:Int).toNat * s.y.toNat;let k5:=decide ((y1:Int) < s.a);((y1:Int)≤s.a∧∀ j:Nat,j < y1→(limit.whole (acc s.y j s.cs)).2=0)→∀ τ3:Nat→Value,(k5=true→iq Tryz.prog w [] 72 #[.agg (bg v s),.int .i64 (y1:Int)] (.slice k3 s.y.toNat k4)∧iq Tryz.prog w [] 71 #[.slice k3 s.y.toNat k4] (.tuple #[.int .i64 (k2.1),.int .i64 (k2.2)])∧((!decide ((k2.2)=0))=true→(.bool false:Value) = .bool (decide (Qo s)))∧((!decide ((k2.2)=0))=false→(.int .i64 (IntKind.i64.wrap ((y1:Int)+1)):Value) = .int .i64 ((y1+1:Nat):Int)∧∃ x' : Nat,((x' : Int)≤s.a∧∀ j:Nat,j < x'→(limit.whole (acc s.y j s.cs)).2=0)∧(s.a.toNat - x' < s.a.toNat - y1)∧(([.pointer k1,.int .i64 s.a,.int .i64 ((y1+1:Nat):Int)]:List Value)=[.pointer k1,.int .i64 s.a,.int .i64 (x' : Int)]∧k0=[some ⟨g0,0,(bg v s),.own 27⟩]∧iw w [] [])∧true=true))∧(k5=false→(.bool true:Value) = .bool (decide (Qo s)))) Tryz.func43 (by kernel_rfl)
 (fun g0=>⟨(fun w _ _=>zh),⟨by have:=hL.1;omega,fun j hj=>absurd hj (Nat.not_lt_zero j)⟩,⟨rfl,rfl,(jm (List.nil_sublist _))⟩,rfl,fun y1 I2 τ3=>⟨fun h4=>have h4:(y1:Int) < s.a:=(by simpa using h4)
⟨(fun w hw _=>qpb v s (y1:Int) w (h.later hw) hL (by omega)),⟨qm3 (fun w hw _=>qg2 (h.later hw).c h.nc.1) (qgi (Us hL (a:=(y1:Int)) (by omega)).2.2.2.2.1) (by have:=(Us hL (a:=(y1:Int)) (by omega)).2.2.2.2.2.2.1;omega),⟨fun h5=>have h5:¬ ((limit.whole (acc s.y (y1:Int).toNat s.cs)).2)=0:=(by simpa using h5)
(by rw [q50 (j:=y1) (by omega) (by simpa using h5)]),
 fun h5=>have h5:((limit.whole (acc s.y (y1:Int).toNat s.cs)).2)=0:=(by simpa using h5)
⟨lg (by omega) (by omega) (by omega),⟨((y1+1):Nat),⟨by omega,Gx I2.2 (by simpa using h5)⟩,(by omega),⟨rfl,rfl,(jm (List.nil_sublist _))⟩,rfl⟩⟩⟩⟩⟩,
 fun h4=>have h4:¬ (y1:Int) < s.a:=(by simpa using h4)
(by rw [q2v (fun j hj=>I2.2 j (by omega))])⟩⟩)
theorem q8q (A:Option Addr) (c:Nat) (xs:List Ce) (C:Option Addr) (d:Nat) (ys:List Ce)  (w:World) (hx:ql gu 4 w (Lt w.heap.size) A xs) (hy:ql gu 4 w (Lt w.heap.size) C ys) (hl:xs.length≤9223372036854775807∧ys.length≤9223372036854775807):Calls Tryz.prog 35 #[.slice A xs.length c,.slice C ys.length d] w fun e w'=>e = .returned (.bool (decide (xs=ys)))∧Below w.heap.size w w' :=
 uw (fn:=Tryz.f35) (r:=.bool (decide (xs=ys))) (t:=.s .z (.l (Nat) (fun x=>[(0,.slice A xs.length c,none),(1,.slice C ys.length d,none),(12,.int .i64 (xs.length:Int),none),(13,.int .i64 (x:Int),none)]) (fun x=>[]) [] [] (fun x=>[]) (fun x=>x≤xs.length∧∀ j,j < x→xs.getD j cz=ys.getD j cz) (fun x=>xs.length - x) (0:Nat) (fun y2=>.s (.o [] (.p (au A) (ay A+y2 * 4) (cell.cc (xs.getD y2 cz)) (.p (au C) (ay C+y2 * 4) (cell.cc (ys.getD y2 cz)) (.xs (!decide ((xs.getD y2 cz)=(ys.getD y2 cz))) .z (.e (.int .i64 ((y2+1:Nat):Int)) .z))))) .z))) (X :=
 let k0:=(xs.length:Int);let k1 := !decide (k0=(ys.length:Int));let k2:=decide (xs=ys);let k3:=([]:List (Option jv));(k1=true→(.bool false:Value) = .bool k2)∧(k1=false→xg w [] []∧((0:Nat)≤xs.length∧∀ j,j < (0:Nat)→xs.getD j cz=ys.getD j cz)∧(([.slice A xs.length c,.slice C ys.length d,.int .i64 k0,.int .i64 0]:List Value)=[.slice A xs.length c,.slice C ys.length d,.int .i64 k0,.int .i64 ((0:Nat):Int)]∧k3=[]∧iw w [] [])∧true=true∧∀ (y2:Nat),let k4 := !decide ((xs.getD y2 cz)=(ys.getD y2 cz));let k5:=cell.cc (xs.getD y2 cz);let k6:=cell.cc (ys.getD y2 cz);let k7:=decide ((y2:Int) < k0);(y2≤xs.length∧∀ j,j < y2→xs.getD j cz=ys.getD j cz)→∀ τ4:Nat→Value,(k7=true→jd Tryz.prog w [] (Instr.indexAt 23 (.slice A xs.length c) (.int .i64 (y2:Int))) (.pointer (some ⟨au A,ay A+y2 * 4,none⟩))∧o7 w [] (au A) (ay A+y2 * 4) k5∧jd Tryz.prog w [] (Instr.indexAt 23 (.slice C ys.length d) (.int .i64 (y2:Int))) (.pointer (some ⟨au C,ay C+y2 * 4,none⟩))∧o7 w [] (au C) (ay C+y2 * 4) k6∧jd Tryz.prog w [] (do eqGuard BinOp.neq 60 (.tmp 19) (.tmp 23) (.agg k5) (.agg k6);Go.binOp BinOp.neq 60 (.agg k5) (.agg k6)) (.bool k4)∧(k4=true→(.bool false:Value) = .bool k2)∧(k4=false→(.int .i64 (IntKind.i64.wrap ((y2:Int)+1)):Value) = .int .i64 ((y2+1:Nat):Int)∧∃ x' : Nat,(x'≤xs.length∧∀ j,j < x'→xs.getD j cz=ys.getD j cz)∧(xs.length - x' < xs.length - y2)∧(([.slice A xs.length c,.slice C ys.length d,.int .i64 k0,.int .i64 ((y2+1:Nat):Int)]:List Value)=[.slice A xs.length c,.slice C ys.length d,.int .i64 k0,.int .i64 (x' : Int)]∧k3=[]∧iw w [] [])∧true=true))∧(k7=false→(.bool true:Value) = .bool k2))) Tryz.func35 (by kernel_rfl)
 (⟨fun h1=>have h1:¬ (xs.length:Int)=(ys.length:Int):=(by simpa using h1)
(by rw [decide_eq_false (fun e=>by subst e;omega)]),
 fun h1=>have h1:(xs.length:Int)=(ys.length:Int):=(by simpa using h1)
⟨(fun w _ _=>zh),⟨Nat.zero_le _,fun j hj=>absurd hj (Nat.not_lt_zero j)⟩,⟨rfl,rfl,(jm (List.nil_sublist _))⟩,rfl,fun y2 I3 τ4=>⟨fun h5=>have h5:(y2:Int) < (xs.length:Int):=(by simpa using h5)
⟨(yw Tryz.underlying23 yg qa2 (Nat.le_refl _) hx rfl (by omega)),(qa0 qa2 (Nat.le_refl _) hx (ou (by omega))),⟨(yw Tryz.underlying23 yg qa2 (Nat.le_refl _) hy rfl (by omega)),(qa0 qa2 (Nat.le_refl _) hy (ou (by omega))),⟨Ri (by kernel_rfl) (cell.Ed (xs.getD y2 cz) (ys.getD y2 cz) (Jg hx _ (l7 (by omega))) (Jg hy _ (l7 (by omega)))) _ _,fun h6=>(by rw [decide_eq_false (P6 (z:=cz) (j:=y2) (by simpa using h6))]),
 fun h6=>⟨lg (by omega) (by omega) (by omega),⟨((y2+1):Nat),⟨by omega,Gx I3.2 (by simpa using h6)⟩,(by omega),⟨rfl,rfl,(jm (List.nil_sublist _))⟩,rfl⟩⟩⟩⟩⟩,
 fun h5=>have h5:¬ (y2:Int) < (xs.length:Int):=(by simpa using h5)
(by rw [decide_eq_true (Ox (z:=cz) (by omega) (fun j hj=>I3.2 j (by omega)))])⟩⟩⟩)
end Go.Proofs.YtbbjlfbemibfcaaGreat.book
