/-
  zkm, zkn
-/
import Derived.Test.YtbbjlfbemibfcaaGreatMrr16
import Derived.Test.YtbbjlfbemibfcaaGreatMrr28
import Derived.Test.YtbbjlfbemibfcaaGreatMrr09
set_option linter.unusedVariables false
set_option linter.unusedSimpArgs false
section
namespace Go.Proofs.YtbbjlfbemibfcaaGreat.book
open Go.RowKit Go.Proofs.YtbbjlfbemibfcaaGreat
open Go.Proofs.YtbbjlfbemibfcaaGreat.order (Or open_ worth)
open Go.Proofs.YtbbjlfbemibfcaaGreat.cell (Ce Ex)
open Go.Proofs.YtbbjlfbemibfcaaGreat.rec (Rc)
set_option maxRecDepth 20000
open Go.Proofs.YtbbjlfbemibfcaaGreat.order (oz)
theorem Nh:cz.fine:=by unfold cz Ce.fine frame.jh;simp
theorem qz0 {s:St} (hL:Lens s) (hH:Gz s):Gf s:=⟨hL.1,hL.2.1,fun o ho=>⟨(hH.1 o ho).1,(hH.1 o ho).2.2.1,(hH.1 o ho).2.2.2.1⟩⟩
def Mk (s:St) (k:Nat):List Ce:=CL (wst s (s.os.take k))
theorem Ll (s:St) (k:Nat):(Mk s k).length=s.cs.length:=P7 _
theorem qm4 {s:St} {i:Nat} (k:Nat) (hi:i < s.cs.length):(Mk s k)[i]?=some (part s i k):=qo0 (s:=wst s (s.os.take k)) hi
theorem qp2 {s:St} {i:Nat} (k:Nat) (hi:i < s.cs.length):(Mk s k).getD i cz=part s i k:=getD_at (qm4 k hi)
theorem qta {s:St} {k:Nat} (h:s.os.length≤k):Mk s k=CL s:=by unfold Mk;rw [List.take_of_length_le h];rfl
theorem Qp {s:St} (hL:Lens s) (hH:Gz s) {k:Nat} (hk:k < s.os.length):Bg s (s.os.getD k oz).a (s.os.getD k oz).y=((place s.y (s.os.getD k oz).a (s.os.getD k oz).y:Nat):Int)∧place s.y (s.os.getD k oz).a (s.os.getD k oz).y < s.cs.length:=by
 have ho:=hH.1 _ (l7 (z:=oz) hk)
 have h1:=ho.1.1
 have hp:=qim (s:=s) hL.1 (show There s (s.os.getD k oz).a (s.os.getD k oz).y from ⟨by omega,ho.2.2.1,by omega,ho.2.2.2.1⟩)
 have hl:=hL.2.1
 unfold place
 omega
theorem qtb {s:St} (hL:Lens s) (hH:Gz s) {k:Nat} (hk:k < s.os.length):pl s.y (s.os.getD k oz)=((place s.y (s.os.getD k oz).a (s.os.getD k oz).y:Nat):Int):=by
 have ho:=hH.1 _ (l7 (z:=oz) hk)
 have h1:=(qrb (s:=s) hL.1 ho.1 ho.2.2.1 ho.2.2.2.1).2
 rw [← h1,(Qp hL hH hk).1]
theorem qrc {s:St} {i k:Nat} (hk:k < s.os.length):part s i (k+1)=if pl s.y (s.os.getD k oz)=(i:Int) then cell.turned (part s i k) (s.os.getD k oz).d (open_ (s.os.getD k oz)) (worth (s.os.getD k oz)).1 else part s i k:=by
 split
 ·rename_i h
  unfold part cellAt cell.turned
  rw [qh _ hk,qh _ hk,qh _ hk]
  by_cases hd:(s.os.getD k oz).d=1
  ·simp only [wB,wS,wN,h,hd,true_and,and_true,ne_eq,not_true_eq_false,and_false,if_true,if_false,Int.add_zero]
  ·simp only [wB,wS,wN,h,hd,true_and,and_true,ne_eq,not_false_eq_true,and_false,if_true,if_false,Int.add_zero]
 ·rename_i h;exact ql9 hk h
theorem qxw {c:Ce} {o:Or} (h:(cell.come c o).2=0):(worth o).2=0:=(cell.qms (d:=(cell.come c o).1) (by rw [← h])).2.2.2.1
theorem qp3 {s:St} (hL:Lens s) (hH:Gz s) {k:Nat} (hk:k < s.os.length) (h:(cell.come ((Mk s k).getD (place s.y (s.os.getD k oz).a (s.os.getD k oz).y) cz) (s.os.getD k oz)).2=0):(Mk s k).set (place s.y (s.os.getD k oz).a (s.os.getD k oz).y) (cell.come ((Mk s k).getD (place s.y (s.os.getD k oz).a (s.os.getD k oz).y) cz) (s.os.getD k oz)).1=Mk s (k+1):=by
 have hp:=(Qp hL hH hk).2
 have hpl:=qtb hL hH hk
 have hc:=(cell.qms (d:=(cell.come ((Mk s k).getD (place s.y (s.os.getD k oz).a (s.os.getD k oz).y) cz) (s.os.getD k oz)).1) (by rw [← h])).1
 rw [hc,qp2 k hp]
 apply List.ext_getElem?
 intro i
 rw [List.getElem?_set]
 rcases Nat.lt_or_ge i s.cs.length with hi | hi
 ·rw [qm4 (k+1) hi,qrc hk]
  by_cases e:place s.y (s.os.getD k oz).a (s.os.getD k oz).y=i
  ·subst e
   rw [if_pos rfl,if_pos (by rw [Ll];exact hp),if_pos hpl]
  ·rw [if_neg e,if_neg (by rw [hpl];omega),qm4 k hi]
 ·rw [if_neg (by omega),List.getElem?_eq_none (by rw [Ll];exact hi),List.getElem?_eq_none (by rw [Ll];exact hi)]
theorem q2w {s:St} {v:Sv} {w:World} (h:lu w (Lt w.heap.size) v s):∀ c ∈ Mk s 0,c.fine:=fun c hc=>by
 obtain ⟨j,hj,rfl⟩:=Ur cz hc
 rw [Ll] at hj
 rw [qp2 0 hj]
 exact qo1 (Jg h.c _ (l7 hj))
theorem qtc {s:St} (hL:Lens s) (hH:Gz s) {k:Nat} (hk:k < s.os.length) (hf:∀ c ∈ Mk s k,c.fine) (h:(cell.come ((Mk s k).getD (place s.y (s.os.getD k oz).a (s.os.getD k oz).y) cz) (s.os.getD k oz)).2=0):∀ c ∈ Mk s (k+1),c.fine:=fun c hc=>by
 rw [← qp3 hL hH hk h] at hc
 rcases List.mem_or_eq_of_mem_set hc with hc | rfl
 ·exact hf c hc
 ·exact cell.Rk (e:=0) (hf _ (l7 (by rw [Ll];exact (Qp hL hH hk).2))) (by rw [← h])
theorem q2x {s:St} {k:Nat} (hk:k < s.os.length) (h:∀ o ∈ s.os.take k,(worth o).2=0) (h2:(worth (s.os.getD k oz)).2=0):∀ o ∈ s.os.take (k+1),(worth o).2=0:=fun o ho=>by
 rw [List.take_add_one,ou (z:=oz) hk] at ho
 rcases List.mem_append.1 ho with h1 | h1
 ·exact h o h1
 ·simp at h1;subst h1;exact h2
def L1 (s:St) (i:Nat):List Ce:=(Mk s 0).take i++List.replicate (s.cs.length - i) cz
theorem q51 (s:St):L1 s 0=List.replicate s.cs.length cz:=rfl
theorem q8r {s:St} {i:Nat} (h:s.cs.length≤i):L1 s i=Mk s 0:=by
 unfold L1
 rw [List.take_of_length_le (by rw [Ll];exact h),Nat.sub_eq_zero_of_le h];simp
theorem q8s (s:St) (i:Nat):(L1 s i).length=s.cs.length:=by
 unfold L1
 rw [List.length_append,List.length_take,List.length_replicate,Ll];omega
theorem q4p {s:St} {i:Nat} (hi:i < s.cs.length):(L1 s i).getD i cz=cz:=by
 have hl:((Mk s 0).take i).length=i:=by rw [List.length_take,Ll];omega
 refine getD_at ?_
 unfold L1
 rw [List.getElem?_append_right (by omega),hl,Nat.sub_self,List.getElem?_replicate,if_pos (by omega)]
theorem q52 {s:St} {i:Nat} (hi:i < s.cs.length):(L1 s i).set i ⟨(s.cs.getD i cz).p,((L1 s i).getD i cz).b,((L1 s i).getD i cz).s,((L1 s i).getD i cz).n⟩=L1 s (i+1):=by
 rw [q4p hi]
 have hl:((Mk s 0).take i).length=i:=by rw [List.length_take,Ll];omega
 unfold L1
 have e:s.cs.length - i=(s.cs.length - (i+1))+1:=by omega
 rw [List.set_append,if_neg (by omega),hl,Nat.sub_self,e,List.replicate_succ,List.set_cons_zero,List.take_add_one,qm4 0 hi,qq3]
 simp [cz]
def Jt (s:St):Prop:=(∀ o ∈ s.os,(worth o).2=0)∧(∀ c ∈ CL s,c.fine∧cell.aj c)∧CL s=s.cs
instance (s:St):Decidable (Jt s):=by unfold Jt;infer_instance
theorem q2y {s:St} {v:Sv} {w:World} {y:Nat} (h:lu w (Lt w.heap.size) v s) (h1:∀ j,j < s.cs.length→cell.right (s.cs.getD j cz)=true) (hy:s.os.length≤y) (hw:∀ o ∈ s.os.take y,(worth o).2=0) (e:Mk s y=s.cs):decide (Jt s)=true:=by
 rw [qta hy] at e
 rw [List.take_of_length_le hy] at hw
 refine decide_eq_true ⟨hw,fun c hc=>?_,e⟩
 rw [e] at hc
 obtain ⟨j,hj,rfl⟩:=Ur cz hc
 exact ⟨Jg h.c _ hc,cell.dh.1 (h1 j hj)⟩
theorem qxx {s:St} {j:Nat} (hj:j < s.cs.length) (h:cell.right (s.cs.getD j cz)=false):decide (Jt s)=false:=decide_eq_false (fun e=>by
 have h1:=e.2.1 (s.cs.getD j cz) (by rw [e.2.2];exact l7 hj)
 rw [cell.dh.2 h1.2] at h;cases h)
theorem q53 {s:St} {y:Nat} (hy:s.os.length≤y) (h:¬ Mk s y=s.cs):decide (Jt s)=false:=decide_eq_false (fun e=>h (by rw [qta hy];exact e.2.2))
theorem qvo {s:St} (hL:Lens s) (hH:Gz s) (e:Jt s) {i:Nat} (hi:i < s.cs.length) (k:Nat):(part s i k).fine∧cell.aj (part s i k):=by
 have hI:=qz0 hL hH
 have h1:=qmy hI i k
 have h2:=qmx hI i k
 have h3:=e.2.1 _ (List.mem_of_getElem? (qo0 hi))
 have hp:(part s i k).p=(cellAt s.y i (s.cs.getD i cz).p s.os).p:=rfl
 obtain ⟨hf,hr⟩:=h3
 unfold Ce.fine frame.jh at *
 unfold cell.aj at *
 omega
theorem qrd {s:St} (hL:Lens s) (hH:Gz s) (e:Jt s) {k:Nat} (hk:k < s.os.length):(cell.come ((Mk s k).getD (place s.y (s.os.getD k oz).a (s.os.getD k oz).y) cz) (s.os.getD k oz)).2=0:=by
 have hp:=(Qp hL hH hk).2
 have hpl:=qtb hL hH hk
 rw [qp2 k hp]
 have h1:=qvo hL hH e hp k
 have h2:=qvo hL hH e hp (k+1)
 rw [qrc hk,if_pos hpl] at h2
 have ho:=hH.1 _ (l7 (z:=oz) hk)
 unfold cell.come
 rw [cell.dh.2 h1.2,order.dh.2 ho.1,if_neg (by simp),if_neg (by rw [e.1 _ (l7 hk)];simp)]
 rw [cell.Rj.2 ⟨rfl,h2⟩]
theorem qz1 {s:St} (hL:Lens s) (hH:Gz s) {k:Nat} (hk:k < s.os.length) (h:¬ (cell.come ((Mk s k).getD (place s.y (s.os.getD k oz).a (s.os.getD k oz).y) cz) (s.os.getD k oz)).2=0):decide (Jt s)=false:=decide_eq_false (fun e=>h (qrd hL hH e hk))
theorem q97 (v:Sv) (s:St)  (w:World) (h:lu w (Lt w.heap.size) v s) (hL:Lens s) (hH:Gz s):Calls Tryz.prog 42 #[.agg (bg v s)] w fun e w'=>e = .returned (.bool (decide (Jt s)))∧Below w.heap.size w w' :=
 have hlen:=h.len
 have hcs:=qsq (qz0 hL hH)
 uw (fn:=Tryz.f42) (r:=.bool (decide (Jt s))) (t:=.w (Nat) none (fun x=>.slice (some ⟨x,0,none⟩) s.cs.length s.cs.length) (fun x=>[oC (some ⟨x,0,none⟩) s.cs.length s.cs.length (List.replicate s.cs.length cz)]) (fun x1=>let k0:Option Addr:=some ⟨x1,0,none⟩; .l (Nat) (fun x=>[(1,undef,some (0,0)),(3,.slice k0 s.cs.length s.cs.length,none),(15,.slice v.A2 s.cs.length v.c2,none),(16,.int .i64 (s.cs.length:Int),none),(17,.int .i64 (x:Int),none)]) (fun x=>[]) [0] [] (fun x=>[oC k0 s.cs.length s.cs.length (L1 s x)]) (fun x=>x≤s.cs.length∧∀ j,j < x→cell.right (s.cs.getD j cz)=true) (fun x=>s.cs.length - x) (0:Nat) (fun y2=>.s (.p (au v.A2) (ay v.A2+y2 * 4) (cell.cc (s.cs.getD y2 cz)) (.cs (cell.right (s.cs.getD y2 cz)) (.x (.pointer (some ⟨au k0,ay k0+y2 * 4,none⟩)) (.w (Unit) (some 0) (fun x=>undef) (fun x=>[oC k0 s.cs.length s.cs.length (L1 s (y2+1))]) (fun x7=>.e (.int .i64 ((y2+1:Nat):Int)) .z))) .z)) (.l (Nat) (fun x=>[(1,undef,some (0,0)),(3,.slice k0 s.cs.length s.cs.length,none),(33,.slice v.A1 s.os.length v.c1,none),(34,.int .i64 (s.os.length:Int),none),(35,.int .i64 (x:Int),none)]) (fun x=>[]) [0] [] (fun x=>[oC k0 s.cs.length s.cs.length (Mk s x)]) (fun x=>x≤s.os.length∧(∀ c ∈ (Mk s x),c.fine)∧∀ o ∈ s.os.take x,(worth o).2=0) (fun x=>s.os.length - x) (0:Nat) (fun y8=>let k1:=s.os.getD y8 order.oz;let k4:=place s.y k1.a k1.y;let k2:=(Mk s y8).getD k4 cz;let k3:Value:=.pointer (some ⟨au k0,ay k0+k4 * 4,none⟩);let k5:=cell.come k2 k1; .s (.p (au v.A1) (ay v.A1+y8 * 12) (order.oc k1) (.c (.int .i64 (Bg s (k1.a) (k1.y))) (.ow [] [Jq gu 4 60 k0 s.cs.length s.cs.length] (.x k3 (.x (.agg (cell.cc k2)) (.c (.tuple #[.agg (cell.cc (k5.1)),.int .i64 (k5.2)]) (.x k3 (.w (Unit) (some 0) (fun x=>undef) (fun x=>[oC k0 s.cs.length s.cs.length ((Mk s y8).set k4 (k5.1))]) (fun x12=>.s .z (.e (.int .i64 ((y8+1:Nat):Int)) .z)))))))))) (.cs (decide ((Mk s y8)=s.cs)) .z .z)))))) (X :=
 let k0:=(s.cs.length:Int);let k1:=(s.os.length:Int);let k2:=List.replicate s.cs.length cz;let k3:=decide (Jt s);let k4:=(.bool false:Value); ∀ g0:Nat,let k5:=([some ⟨g0,0,(bg v s),.own 27⟩]:List (Option jv));let k6:Option Addr:=some ⟨g0,0,none⟩;jw Tryz.prog w [] (Instr.makeSlice 23 (.int .i64 k0) (.int .i64 k0)) (fun _=>False) (Nat) (fun x=>.slice (some ⟨x,0,none⟩) s.cs.length s.cs.length) (fun x=>[oC (some ⟨x,0,none⟩) s.cs.length s.cs.length k2])∧∀ x1:Nat,let k7:Option Addr:=some ⟨x1,0,none⟩;let k8:List Fact:=[Jq gu 4 60 k7 s.cs.length s.cs.length];let k9:Value:=.slice k7 s.cs.length s.cs.length;xg w [oC k7 s.cs.length s.cs.length k2] []∧((0:Nat)≤s.cs.length∧∀ j,j < (0:Nat)→cell.right (s.cs.getD j cz)=true)∧(([.pointer k6,.slice k7 s.cs.length s.cs.length,.slice v.A2 s.cs.length v.c2,.int .i64 k0,.int .i64 0]:List Value)=[.pointer k6,.slice k7 s.cs.length s.cs.length,.slice v.A2 s.cs.length v.c2,.int .i64 k0,.int .i64 ((0:Nat):Int)]∧k5=[some ⟨g0,0,(bg v s),.own 27⟩]∧iw w [oC k7 s.cs.length s.cs.length k2] [oC k7 s.cs.length s.cs.length (L1 s (0:Nat))])∧true=true∧∀ (y2:Nat),let k10:List Fact:=[oC k7 s.cs.length s.cs.length (L1 s y2)];let k11:=s.cs.getD y2 cz;let k12:List Fact:=[oC k7 s.cs.length s.cs.length (L1 s (y2+1))];let k13:=cell.right k11;let k14:=decide ((y2:Int) < k0);(y2≤s.cs.length∧∀ j,j < y2→cell.right (s.cs.getD j cz)=true)→∀ τ4:Nat→Value,(k14=true→jd Tryz.prog w k10 (Instr.indexAt 23 (.slice v.A2 s.cs.length v.c2) (.int .i64 (y2:Int))) (.pointer (some ⟨au v.A2,ay v.A2+y2 * 4,none⟩))∧o7 w [] (au v.A2) (ay v.A2+y2 * 4) (cell.cc k11)∧∀ g2:Nat,iq Tryz.prog w k10 69 #[.agg (cell.cc k11)] (.bool k13)∧(k13=true→jd Tryz.prog w k10 (Instr.indexAt 23 k9 (.int .i64 (y2:Int))) (.pointer (some ⟨au k7,ay k7+y2 * 4,none⟩))∧Hu Tryz.prog w k10 (Instr.storeAt 2 (.pointer (some ⟨au k7,ay k7+y2 * 4+0,none⟩)) (.int .i64 (k11.p))) ((oC k7 s.cs.length s.cs.length (L1 s y2)).S) (Unit) (fun x=>undef) (fun x=>k12)∧∀ x7:Unit,(.int .i64 (IntKind.i64.wrap ((y2:Int)+1)):Value) = .int .i64 ((y2+1:Nat):Int)∧∃ x' : Nat,(x'≤s.cs.length∧∀ j,j < x'→cell.right (s.cs.getD j cz)=true)∧(s.cs.length - x' < s.cs.length - y2)∧(([.pointer k6,.slice k7 s.cs.length s.cs.length,.slice v.A2 s.cs.length v.c2,.int .i64 k0,.int .i64 ((y2+1:Nat):Int)]:List Value)=[.pointer k6,.slice k7 s.cs.length s.cs.length,.slice v.A2 s.cs.length v.c2,.int .i64 k0,.int .i64 (x' : Int)]∧k5=[some ⟨g0,0,(bg v s),.own 27⟩]∧iw w k12 [oC k7 s.cs.length s.cs.length (L1 s x')])∧true=true)∧(k13=false→k4 = .bool k3))∧(k14=false→xg w k10 []∧((0:Nat)≤s.os.length∧(∀ c ∈ (Mk s (0:Nat)),c.fine)∧∀ o ∈ s.os.take (0:Nat),(worth o).2=0)∧(([.pointer k6,.slice k7 s.cs.length s.cs.length,.slice v.A1 s.os.length v.c1,.int .i64 k1,.int .i64 0]:List Value)=[.pointer k6,.slice k7 s.cs.length s.cs.length,.slice v.A1 s.os.length v.c1,.int .i64 k1,.int .i64 ((0:Nat):Int)]∧k5=[some ⟨g0,0,(bg v s),.own 27⟩]∧iw w k10 [oC k7 s.cs.length s.cs.length (Mk s (0:Nat))])∧true=true∧∀ (y8:Nat),let k15:=s.os.getD y8 order.oz;let k20:=place s.y k15.a k15.y;let k23:=(Mk s y8).getD k20 cz;let k16:=cell.come k23 k15;let k17:List Fact:=[oC k7 s.cs.length s.cs.length (Mk s y8)];let k18:Value:=.pointer (some ⟨au k7,ay k7+k20 * 4,none⟩);let k19:List Fact:=[oC k7 s.cs.length s.cs.length ((Mk s y8).set k20 (k16.1))];let k21:Value:=.int .i64 (Bg s (k15.a) (k15.y));let k22:=decide ((Mk s y8)=s.cs);let k24:=decide ((y8:Int) < k1);(y8≤s.os.length∧(∀ c ∈ (Mk s y8),c.fine)∧∀ o ∈ s.os.take y8,(worth o).2=0)→∀ τ10:Nat→Value,(k24=true→jd Tryz.prog w k17 (Instr.indexAt 22 (.slice v.A1 s.os.length v.c1) (.int .i64 (y8:Int))) (.pointer (some ⟨au v.A1,ay v.A1+y8 * 12,none⟩))∧o7 w [] (au v.A1) (ay v.A1+y8 * 12) (order.oc k15)∧∀ g2:Nat,iq Tryz.prog w k17 68 #[.agg (bg v s),.int .i64 (k15.a),.int .i64 (k15.y)] k21∧qp w k17 k8∧jd Tryz.prog w k8 (Instr.indexAt 23 k9 k21) k18∧jd Tryz.prog w k17 (Instr.loadAt 60 k18) (.agg (cell.cc k23))∧iq Tryz.prog w k17 70 #[.agg (cell.cc k23),.agg (order.oc k15)] (.tuple #[.agg (cell.cc (k16.1)),.int .i64 (k16.2)])∧jd Tryz.prog w k8 (Instr.indexAt 23 k9 k21) k18∧(∀ x:Unit,qp w k19 k8)∧Hu Tryz.prog w k17 (Instr.storeAt 60 k18 (.agg (cell.cc (k16.1)))) ((oC k7 s.cs.length s.cs.length (Mk s y8)).S) (Unit) (fun x=>undef) (fun x=>k19)∧∀ x12:Unit,((!decide ((k16.2)=0))=true→k4 = .bool k3)∧((!decide ((k16.2)=0))=false→(.int .i64 (IntKind.i64.wrap ((y8:Int)+1)):Value) = .int .i64 ((y8+1:Nat):Int)∧∃ x' : Nat,(x'≤s.os.length∧(∀ c ∈ (Mk s x'),c.fine)∧∀ o ∈ s.os.take x',(worth o).2=0)∧(s.os.length - x' < s.os.length - y8)∧(([.pointer k6,.slice k7 s.cs.length s.cs.length,.slice v.A1 s.os.length v.c1,.int .i64 k1,.int .i64 ((y8+1:Nat):Int)]:List Value)=[.pointer k6,.slice k7 s.cs.length s.cs.length,.slice v.A1 s.os.length v.c1,.int .i64 k1,.int .i64 (x' : Int)]∧k5=[some ⟨g0,0,(bg v s),.own 27⟩]∧iw w k19 [oC k7 s.cs.length s.cs.length (Mk s x')])∧true=true))∧(k24=false→iq Tryz.prog w k17 35 #[.slice k7 s.cs.length s.cs.length,.slice v.A2 s.cs.length v.c2] (.bool k22)∧(k22=true→(.bool true:Value) = .bool k3)∧(k22=false→k4 = .bool k3)))) Tryz.func42 (by kernel_rfl)
 (fun g0=>⟨(Oo zn Tryz.underlying23 yg rfl (fun _=>⟨rfl,Nh⟩) (by omega) (by unfold maxLen;omega)),fun x1=>⟨(fun w _ _=>zh),⟨Nat.zero_le _,fun j hj=>absurd hj (Nat.not_lt_zero j)⟩,⟨rfl,rfl,(jm (qmq (by rw [q51])))⟩,rfl,fun y2 I3 τ4=>⟨fun h5=>have h5:(y2:Int) < (s.cs.length:Int):=(by simpa using h5)
⟨(yw Tryz.underlying23 yg qa2 (Nat.le_refl _) h.c rfl (by omega)),(qa0 qa2 (Nat.le_refl _) h.c (ou (by omega))),fun g2=>⟨Oy (Jg h.c _ (l7 (by omega))),fun h6=>⟨(Gn Tryz.underlying23 yg (ji (j:=0) rfl) (by omega)),⟨(qu4 (q52 (by omega)) (qw3 zn Nv qa2 (fun _=>rfl) (x:=((L1 s y2).getD y2 cz)) (x':=⟨(s.cs.getD y2 cz).p,((L1 s y2).getD y2 cz).b,((L1 s y2).getD y2 cz).s,((L1 s y2).getD y2 cz).n⟩) (off:=0) (vs:=[.int .i64 ((s.cs.getD y2 cz).p)]) (ji (j:=0) rfl) (by omega) (ou (by rw [q8s];omega)) rfl (by simp) rfl (fun _=>⟨rfl,⟨(Jg h.c _ (l7 (by omega))).1,by rw [q4p (by omega)];exact ⟨Nh.2.1,Nh.2.2.1,Nh.2.2.2⟩⟩⟩) (fun c hc=>by rw [List.mem_singleton.1 hc];rfl) (by kernel_rfl))),fun x7=>⟨lg (by omega) (by omega) (by omega),⟨((y2+1):Nat),⟨by omega,Gx I3.2 h6⟩,(by omega),⟨rfl,rfl,(jm (.cons_cons _ (List.nil_sublist _)))⟩,rfl⟩⟩⟩⟩,
 fun h6=>(by rw [qxx (j:=y2) (by omega) h6])⟩⟩,
 fun h5=>have h5:¬ (y2:Int) < (s.cs.length:Int):=(by simpa using h5)
⟨(fun w _ _=>zh),⟨Nat.zero_le _,q2w h,by simp⟩,⟨rfl,rfl,(jm (qmq (by rw [q8r (show s.cs.length≤y2 by omega)])))⟩,rfl,fun y8 I9 τ10=>⟨fun h11=>have h11:(y8:Int) < (s.os.length:Int):=(by simpa using h11)
⟨(yw Tryz.underlying22 qbd Dv (Nat.le_refl _) h.o rfl (by omega)),(qa0 Dv (Nat.le_refl _) h.o (ou (by omega))),fun g2=>⟨gives (qkp v s _ _),⟨fun w _ ha=>⟨⟨_,ha.1⟩,trivial⟩,⟨(Gp (Qp hL hH (show y8 < s.os.length by omega)).1 (Pq Tryz.underlying23 yg (i:=0) rfl (Qp hL hH (show y8 < s.os.length by omega)).2)),⟨(qqt zn (by decide) qa2 (fun _=>rfl) Tryz.underlying60 rfl (by kernel_rfl) (x:=((Mk s y8).getD (place s.y (s.os.getD y8 order.oz).a (s.os.getD y8 order.oz).y) cz)) (ji (j:=0) rfl) (ou (by rw [Ll];exact (Qp hL hH (show y8 < s.os.length by omega)).2))),⟨Vw (I9.2.1 _ (l7 (by rw [Ll];exact (Qp hL hH (show y8 < s.os.length by omega)).2))) (Bh h.o _ (l7 (by omega))),⟨(Gp (Qp hL hH (show y8 < s.os.length by omega)).1 (Pq Tryz.underlying23 yg (i:=0) rfl (Qp hL hH (show y8 < s.os.length by omega)).2)),⟨fun x w _ ha=>⟨⟨_,ha.1⟩,trivial⟩,(Ue zn Nv yg (ji (j:=0) rfl) (Qp hL hH (show y8 < s.os.length by omega)).2 rfl (fun _=>⟨rfl,(cell.Rk (e:=(cell.come ((Mk s y8).getD (place s.y (s.os.getD y8 order.oz).a (s.os.getD y8 order.oz).y) cz) (s.os.getD y8 order.oz)).2) (I9.2.1 _ (l7 (by rw [Ll];exact (Qp hL hH (show y8 < s.os.length by omega)).2))) rfl)⟩)),fun x12=>⟨fun h13=>have h13:¬ ((cell.come ((Mk s y8).getD (place s.y (s.os.getD y8 order.oz).a (s.os.getD y8 order.oz).y) cz) (s.os.getD y8 order.oz)).2)=0:=(by simpa using h13)
(by rw [qz1 hL hH (k:=y8) (by omega) (by simpa using h13)]),
 fun h13=>have h13:((cell.come ((Mk s y8).getD (place s.y (s.os.getD y8 order.oz).a (s.os.getD y8 order.oz).y) cz) (s.os.getD y8 order.oz)).2)=0:=(by simpa using h13)
⟨lg (by omega) (by omega) (by omega),⟨((y8+1):Nat),⟨by omega,qtc hL hH (by omega) I9.2.1 h13,q2x (by omega) I9.2.2 (qxw h13)⟩,(by omega),⟨rfl,rfl,(jm (by rw [← (qp3 hL hH (show y8 < s.os.length by omega) h13)];exact .cons_cons _ (List.nil_sublist _)))⟩,rfl⟩⟩⟩⟩⟩⟩⟩⟩⟩⟩⟩,
 fun h11=>have h11:¬ (y8:Int) < (s.os.length:Int):=(by simpa using h11)
⟨(fun w hw ha=>by have:=q8q (some ⟨x1,0,none⟩) s.cs.length (Mk s y8) v.A2 v.c2 s.cs w ((ji (j:=0) rfl w ha).reads zn (by decide)) (h.later hw).c ⟨by rw [Ll];omega,by omega⟩;rw [Ll] at this;exact this),fun uy=>(by rw [q2y h (fun j hj=>I3.2 j (by omega)) (show s.os.length≤y8 by omega) I9.2.2 (of_decide_eq_true uy)]),
 fun uy=>(by rw [q53 (show s.os.length≤y8 by omega) (of_decide_eq_false uy)])⟩⟩⟩⟩⟩⟩)
end Go.Proofs.YtbbjlfbemibfcaaGreat.book
end
section
namespace Go.Proofs.YtbbjlfbemibfcaaGreat.book
open Go.RowKit Go.Proofs.YtbbjlfbemibfcaaGreat
open Go.Proofs.YtbbjlfbemibfcaaGreat.order (Or open_ worth)
open Go.Proofs.YtbbjlfbemibfcaaGreat.cell (Ce Ex)
open Go.Proofs.YtbbjlfbemibfcaaGreat.rec (Rc)
set_option maxRecDepth 20000
open Go.Proofs.YtbbjlfbemibfcaaGreat.order (oz)
theorem uj {s:St} (hz:Gg s.a s.y) (hc:Ij s):Lens s:=⟨hz,hc.1.1,hc.1.2.1,hc.1.2.2⟩
theorem lq {s:St} (h:aj s):Gg s.a s.y∧Ij s∧Qn s∧Gz s∧Jt s∧Qo s:=by
 obtain ⟨h1,h2,h3,h4,h5,h6,h7,h8⟩:=h
 refine ⟨h1,⟨h2,h4.2.2,h3⟩,⟨h5,h6⟩,⟨h4.1,h4.2.1⟩,⟨h7.1,?_,h8.symm⟩,h7.2.2⟩
 rw [show CL s=s.cs from h8.symm];exact h7.2.1
theorem qz2 {s:St} (h1:Gg s.a s.y) (h2:Ij s) (h3:Qn s) (h4:Gz s) (h5:Jt s) (h6:Qo s):right s=true:=by
 refine dh.2 ⟨h1,h2.1,h2.2.2,⟨h4.1,h4.2,h2.2.1⟩,h3.1,h3.2,⟨h5.1,?_,h6⟩,h5.2.2.symm⟩
 have:=h5.2.1
 rw [h5.2.2] at this;exact this
theorem qz3 (v:Sv) (s:St)  (w:World) (h:lu w (Lt w.heap.size) v s):Calls Tryz.prog 18 #[.agg (bg v s)] w fun e w'=>e = .returned (.bool (right s))∧Below w.heap.size w w' :=
 have hlen:=h.len
 uw (fn:=Tryz.f18) (r:=.bool (right s)) (t:=.cs (decide (Gg s.a s.y)) (.k (.cs (decide (Ij s)) (.k (.cs (decide (Qn s)) (.k (.cs (decide (Gz s)) (.k (.cs (decide (Jt s)) (.k (.cs (decide (Qo s)) .z .z)) (.k .z))) (.k (.k .z)))) (.k (.k (.k .z))))) (.k (.k (.k (.k .z)))))) (.k (.k (.k (.k (.k .z)))))) (X :=
 let k0:=(.bool false:Value);let k1:=decide (Gg s.a s.y);let k2:Array Value:=#[.agg (bg v s)];let k3:=decide (Ij s);let k4:=decide (Qn s);let k5:=decide (Gz s);let k6:=decide (Jt s);let k7:=decide (Qo s); ∀ g0:Nat,iq Tryz.prog w [] 38 #[.int .i64 s.a,.int .i64 s.y] (.bool k1)∧(k1=true→iq Tryz.prog w [] 39 k2 (.bool k3)∧(k3=true→iq Tryz.prog w [] 40 k2 (.bool k4)∧(k4=true→iq Tryz.prog w [] 41 k2 (.bool k5)∧(k5=true→iq Tryz.prog w [] 42 k2 (.bool k6)∧(k6=true→iq Tryz.prog w [] 43 k2 (.bool k7)∧(k7=true→(.bool true:Value) = .bool (right s))∧(k7=false→k0 = .bool (right s)))∧(k6=false→k0 = .bool (right s)))∧(k5=false→k0 = .bool (right s)))∧(k4=false→k0 = .bool (right s)))∧(k3=false→k0 = .bool (right s)))∧(k1=false→k0 = .bool (right s))) Tryz.func18 (by kernel_rfl)
 (fun g0=>⟨gives (q4o s.a s.y),fun h1=>⟨(fun w hw _=>q8o v s w (h.later hw) (of_decide_eq_true h1)),fun h2=>⟨(fun w hw _=>q8p v s w (h.later hw)),fun h3=>⟨(fun w hw _=>q95 v s w (h.later hw) (of_decide_eq_true h1) (of_decide_eq_true h2).2.2.1),fun h4=>⟨(fun w hw _=>q97 v s w (h.later hw) (uj (of_decide_eq_true h1) (of_decide_eq_true h2)) (of_decide_eq_true h4)),fun h5=>⟨(fun w hw _=>q96 v s w (h.later hw) (uj (of_decide_eq_true h1) (of_decide_eq_true h2))),fun h6=>(by rw [qz2 (of_decide_eq_true h1) (of_decide_eq_true h2) (of_decide_eq_true h3) (of_decide_eq_true h4) (of_decide_eq_true h5) (of_decide_eq_true h6)]),
 fun h6=>(by rw [jo.2 (fun e=>(of_decide_eq_false h6) (lq e).2.2.2.2.2)])⟩,
 fun h5=>(by rw [jo.2 (fun e=>(of_decide_eq_false h5) (lq e).2.2.2.2.1)])⟩,
 fun h4=>(by rw [jo.2 (fun e=>(of_decide_eq_false h4) (lq e).2.2.2.1)])⟩,
 fun h3=>(by rw [jo.2 (fun e=>(of_decide_eq_false h3) (lq e).2.2.1)])⟩,
 fun h2=>(by rw [jo.2 (fun e=>(of_decide_eq_false h2) (lq e).2.1)])⟩,
 fun h1=>(by rw [jo.2 (fun e=>(of_decide_eq_false h1) (lq e).1)])⟩)
theorem zkr (v:Sv) (s:St) (r:Rc)  (w:World) (h:lu w (Lt w.heap.size) v s) (hrf:r.fine):Calls Tryz.prog 44 #[.agg (bg v s),.agg (rec.rc r)] w fun e w'=>e = .returned (.bool (!decide (qc5 s r)))∧Below w.heap.size w w' :=
 have hlen:=h.len
 uw (fn:=Tryz.f44) (r:=.bool (!decide (qc5 s r))) (t:=.cs (right s) (.k (.cs (rec.right r) (.k (.s (.k (.s (.k (.s (.k (.s (.k .z) (.k (.s .z .z)))) (.k .z))) (.k (.k .z)))) (.k (.k (.k .z))))) (.k (.k (.k (.k .z)))))) (.k (.k (.k (.k (.k .z)))))) (X :=
 let k0 := !decide (qc5 s r);let k1:=(.bool false:Value);let k2:=decide (s.ng < 1000000000);let k3:=decide (r.o > s.last); ∀ g0:Nat,∀ g1:Nat,iq Tryz.prog w [] 18 #[.agg (bg v s)] (.bool (right s))∧((right s)=true→iq Tryz.prog w [] 73 #[.agg (rec.rc r)] (.bool (rec.right r))∧((rec.right r)=true→(k2=true→((decide (r.a < s.a))=true→((decide (r.y < s.y))=true→((!decide (r.k=1))=true→(.bool true:Value) = .bool k0)∧((!decide (r.k=1))=false→(k3=true→(.bool true:Value) = .bool k0)∧(k3=false→k1 = .bool k0)))∧((decide (r.y < s.y))=false→k1 = .bool k0))∧((decide (r.a < s.a))=false→k1 = .bool k0))∧(k2=false→k1 = .bool k0))∧((rec.right r)=false→k1 = .bool k0))∧((right s)=false→k1 = .bool k0)) Tryz.func44 (by kernel_rfl)
 (fun g0=>fun g1=>⟨(fun w hw _=>qz3 v s w (h.later hw)),fun h1=>⟨qxs hrf,fun h2=>⟨fun h3=>have h3:s.ng < 1000000000:=(by simpa using h3)
⟨fun h4=>have h4:r.a < s.a:=(by simpa using h4)
⟨fun h5=>have h5:r.y < s.y:=(by simpa using h5)
⟨fun h6=>have h6:¬ r.k=1:=(by simpa using h6)
(by rw [decide_eq_false (qsw h1 h2 (by omega) (by omega) (by omega) (fun _=>by omega))]<;>rfl),
 fun h6=>have h6:r.k=1:=(by simpa using h6)
⟨fun h7=>have h7:s.last < r.o:=(by simpa using h7)
(by rw [decide_eq_false (qsw h1 h2 (by omega) (by omega) (by omega) (fun _=>by omega))]<;>rfl),
 fun h7=>have h7:¬ s.last < r.o:=(by simpa using h7)
(by rw [decide_eq_true (show qc5 s r from by unfold qc5;right;right;omega)]<;>rfl)⟩⟩,
 fun h5=>have h5:¬ r.y < s.y:=(by simpa using h5)
(by rw [decide_eq_true (show qc5 s r from by unfold qc5;right;right;omega)]<;>rfl)⟩,
 fun h4=>have h4:¬ r.a < s.a:=(by simpa using h4)
(by rw [decide_eq_true (show qc5 s r from by unfold qc5;right;right;omega)]<;>rfl)⟩,
 fun h3=>have h3:¬ s.ng < 1000000000:=(by simpa using h3)
(by rw [decide_eq_true (show qc5 s r from by unfold qc5;right;right;omega)]<;>rfl)⟩,
 fun h2=>(by rw [decide_eq_true (show qc5 s r from .inr (.inl h2))]<;>rfl)⟩,
 fun h1=>(by rw [decide_eq_true (show qc5 s r from .inl h1)]<;>rfl)⟩)
end Go.Proofs.YtbbjlfbemibfcaaGreat.book
end
