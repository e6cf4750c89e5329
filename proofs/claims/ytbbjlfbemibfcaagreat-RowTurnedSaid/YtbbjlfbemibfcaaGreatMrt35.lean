/-
  BookI2, BookI3
-/
import Derived.Test.YtbbjlfbemibfcaaGreatMrt17
import Derived.Test.YtbbjlfbemibfcaaGreatMrt34
import Derived.Test.YtbbjlfbemibfcaaGreatMrt09
set_option linter.unusedVariables false
set_option linter.unusedSimpArgs false
section
namespace Go.Proofs.YtbbjlfbemibfcaaGreat.book
open Go.RowKit Go.Proofs.YtbbjlfbemibfcaaGreat
open Go.Proofs.YtbbjlfbemibfcaaGreat.order (Or open_ worth)
open Go.Proofs.YtbbjlfbemibfcaaGreat.cell (Ce Ex)
open Go.Proofs.YtbbjlfbemibfcaaGreat.rec (Rc)
set_option maxRecDepth 20000
open Go.Proofs.YtbbjlfbemibfcaaGreat.order (oz)
theorem cell0_fine:cz.fine:=by unfold cz Ce.fine frame.inR;simp
theorem rangeH {s:St} (hL:Lens s) (hH:HoldOk s):InRange s:=⟨hL.1,hL.2.1,fun o ho=>⟨(hH.1 o ho).1,(hH.1 o ho).2.2.1,(hH.1 o ho).2.2.2.1⟩⟩
def Mk (s:St) (k:Nat):List Ce:=CL (wst s (s.os.take k))
theorem Mk_len (s:St) (k:Nat):(Mk s k).length=s.cs.length:=CL_len _
theorem Mk_at {s:St} {i:Nat} (k:Nat) (hi:i < s.cs.length):(Mk s k)[i]?=some (part s i k):=CL_at (s:=wst s (s.os.take k)) hi
theorem Mk_getD {s:St} {i:Nat} (k:Nat) (hi:i < s.cs.length):(Mk s k).getD i cz=part s i k:=getD_at (Mk_at k hi)
theorem Mk_end {s:St} {k:Nat} (h:s.os.length≤k):Mk s k=CL s:=by unfold Mk;rw [List.take_of_length_le h];rfl
theorem plK {s:St} (hL:Lens s) (hH:HoldOk s) {k:Nat} (hk:k < s.os.length):placeV s (s.os.getD k oz).a (s.os.getD k oz).y=((place s.y (s.os.getD k oz).a (s.os.getD k oz).y:Nat):Int)∧place s.y (s.os.getD k oz).a (s.os.getD k oz).y < s.cs.length:=by
 have ho:=hH.1 _ (getD_mem (z:=oz) hk)
 have h1:=ho.1.1
 have hp:=placeV_is (s:=s) hL.1 (show There s (s.os.getD k oz).a (s.os.getD k oz).y from ⟨by omega,ho.2.2.1,by omega,ho.2.2.2.1⟩)
 have hl:=hL.2.1
 unfold place
 omega
theorem pl_place {s:St} (hL:Lens s) (hH:HoldOk s) {k:Nat} (hk:k < s.os.length):pl s.y (s.os.getD k oz)=((place s.y (s.os.getD k oz).a (s.os.getD k oz).y:Nat):Int):=by
 have ho:=hH.1 _ (getD_mem (z:=oz) hk)
 have h1:=(placeV_in (s:=s) hL.1 ho.1 ho.2.2.1 ho.2.2.2.1).2
 rw [← h1,(plK hL hH hk).1]
theorem part_next {s:St} {i k:Nat} (hk:k < s.os.length):part s i (k+1)=if pl s.y (s.os.getD k oz)=(i:Int) then cell.turned (part s i k) (s.os.getD k oz).d (open_ (s.os.getD k oz)) (worth (s.os.getD k oz)).1 else part s i k:=by
 split
 ·rename_i h
  unfold part cellAt cell.turned
  rw [sum_next _ hk,sum_next _ hk,sum_next _ hk]
  by_cases hd:(s.os.getD k oz).d=1
  ·simp only [wB,wS,wN,h,hd,true_and,and_true,ne_eq,not_true_eq_false,and_false,if_true,if_false,Int.add_zero]
  ·simp only [wB,wS,wN,h,hd,true_and,and_true,ne_eq,not_false_eq_true,and_false,if_true,if_false,Int.add_zero]
 ·rename_i h;exact part_skip hk h
theorem come_worth {c:Ce} {o:Or} (h:(cell.come c o).2=0):(worth o).2=0:=(cell.come_ok (d:=(cell.come c o).1) (by rw [← h])).2.2.2.1
theorem Mk_next {s:St} (hL:Lens s) (hH:HoldOk s) {k:Nat} (hk:k < s.os.length) (h:(cell.come ((Mk s k).getD (place s.y (s.os.getD k oz).a (s.os.getD k oz).y) cz) (s.os.getD k oz)).2=0):(Mk s k).set (place s.y (s.os.getD k oz).a (s.os.getD k oz).y) (cell.come ((Mk s k).getD (place s.y (s.os.getD k oz).a (s.os.getD k oz).y) cz) (s.os.getD k oz)).1=Mk s (k+1):=by
 have hp:=(plK hL hH hk).2
 have hpl:=pl_place hL hH hk
 have hc:=(cell.come_ok (d:=(cell.come ((Mk s k).getD (place s.y (s.os.getD k oz).a (s.os.getD k oz).y) cz) (s.os.getD k oz)).1) (by rw [← h])).1
 rw [hc,Mk_getD k hp]
 apply List.ext_getElem?
 intro i
 rw [List.getElem?_set]
 rcases Nat.lt_or_ge i s.cs.length with hi | hi
 ·rw [Mk_at (k+1) hi,part_next hk]
  by_cases e:place s.y (s.os.getD k oz).a (s.os.getD k oz).y=i
  ·subst e
   rw [if_pos rfl,if_pos (by rw [Mk_len];exact hp),if_pos hpl]
  ·rw [if_neg e,if_neg (by rw [hpl];omega),Mk_at k hi]
 ·rw [if_neg (by omega),List.getElem?_eq_none (by rw [Mk_len];exact hi),List.getElem?_eq_none (by rw [Mk_len];exact hi)]
theorem Mk_fine0 {s:St} {v:Sv} {w:World} (h:InS w (Lt w.heap.size) v s):∀ c ∈ Mk s 0,c.fine:=fun c hc=>by
 obtain ⟨j,hj,rfl⟩:=mem_getD cz hc
 rw [Mk_len] at hj
 rw [Mk_getD 0 hj]
 exact part_fine0 (fine_ce h.c _ (getD_mem hj))
theorem Mk_next_fine {s:St} (hL:Lens s) (hH:HoldOk s) {k:Nat} (hk:k < s.os.length) (hf:∀ c ∈ Mk s k,c.fine) (h:(cell.come ((Mk s k).getD (place s.y (s.os.getD k oz).a (s.os.getD k oz).y) cz) (s.os.getD k oz)).2=0):∀ c ∈ Mk s (k+1),c.fine:=fun c hc=>by
 rw [← Mk_next hL hH hk h] at hc
 rcases List.mem_or_eq_of_mem_set hc with hc | rfl
 ·exact hf c hc
 ·exact cell.come_fine (e:=0) (hf _ (getD_mem (by rw [Mk_len];exact (plK hL hH hk).2))) (by rw [← h])
theorem worth_nx {s:St} {k:Nat} (hk:k < s.os.length) (h:∀ o ∈ s.os.take k,(worth o).2=0) (h2:(worth (s.os.getD k oz)).2=0):∀ o ∈ s.os.take (k+1),(worth o).2=0:=fun o ho=>by
 rw [List.take_add_one,at_getD (z:=oz) hk] at ho
 rcases List.mem_append.1 ho with h1 | h1
 ·exact h o h1
 ·simp at h1;subst h1;exact h2
def L1 (s:St) (i:Nat):List Ce:=(Mk s 0).take i++List.replicate (s.cs.length - i) cz
theorem L1_zero (s:St):L1 s 0=List.replicate s.cs.length cz:=rfl
theorem L1_end {s:St} {i:Nat} (h:s.cs.length≤i):L1 s i=Mk s 0:=by
 unfold L1
 rw [List.take_of_length_le (by rw [Mk_len];exact h),Nat.sub_eq_zero_of_le h];simp
theorem L1_len (s:St) (i:Nat):(L1 s i).length=s.cs.length:=by
 unfold L1
 rw [List.length_append,List.length_take,List.length_replicate,Mk_len];omega
theorem L1_cz {s:St} {i:Nat} (hi:i < s.cs.length):(L1 s i).getD i cz=cz:=by
 have hl:((Mk s 0).take i).length=i:=by rw [List.length_take,Mk_len];omega
 refine getD_at ?_
 unfold L1
 rw [List.getElem?_append_right (by omega),hl,Nat.sub_self,List.getElem?_replicate,if_pos (by omega)]
theorem L1_next {s:St} {i:Nat} (hi:i < s.cs.length):(L1 s i).set i ⟨(s.cs.getD i cz).p,((L1 s i).getD i cz).b,((L1 s i).getD i cz).s,((L1 s i).getD i cz).n⟩=L1 s (i+1):=by
 rw [L1_cz hi]
 have hl:((Mk s 0).take i).length=i:=by rw [List.length_take,Mk_len];omega
 unfold L1
 have e:s.cs.length - i=(s.cs.length - (i+1))+1:=by omega
 rw [List.set_append,if_neg (by omega),hl,Nat.sub_self,e,List.replicate_succ,List.set_cons_zero,List.take_add_one,Mk_at 0 hi,part_zero]
 simp [cz]
def StepOk (s:St):Prop:=(∀ o ∈ s.os,(worth o).2=0)∧(∀ c ∈ CL s,c.fine∧cell.Rightly c)∧CL s=s.cs
instance (s:St):Decidable (StepOk s):=by unfold StepOk;infer_instance
theorem step_yes {s:St} {v:Sv} {w:World} {y:Nat} (h:InS w (Lt w.heap.size) v s) (h1:∀ j,j < s.cs.length→cell.right (s.cs.getD j cz)=true) (hy:s.os.length≤y) (hw:∀ o ∈ s.os.take y,(worth o).2=0) (e:Mk s y=s.cs):decide (StepOk s)=true:=by
 rw [Mk_end hy] at e
 rw [List.take_of_length_le hy] at hw
 refine decide_eq_true ⟨hw,fun c hc=>?_,e⟩
 rw [e] at hc
 obtain ⟨j,hj,rfl⟩:=mem_getD cz hc
 exact ⟨fine_ce h.c _ hc,cell.right_iff.1 (h1 j hj)⟩
theorem step_right {s:St} {j:Nat} (hj:j < s.cs.length) (h:cell.right (s.cs.getD j cz)=false):decide (StepOk s)=false:=decide_eq_false (fun e=>by
 have h1:=e.2.1 (s.cs.getD j cz) (by rw [e.2.2];exact getD_mem hj)
 rw [cell.right_iff.2 h1.2] at h;cases h)
theorem step_ne {s:St} {y:Nat} (hy:s.os.length≤y) (h:¬ Mk s y=s.cs):decide (StepOk s)=false:=decide_eq_false (fun e=>h (by rw [Mk_end hy];exact e.2.2))
theorem part_ok {s:St} (hL:Lens s) (hH:HoldOk s) (e:StepOk s) {i:Nat} (hi:i < s.cs.length) (k:Nat):(part s i k).fine∧cell.Rightly (part s i k):=by
 have hI:=rangeH hL hH
 have h1:=part_le hI i k
 have h2:=part_nn hI i k
 have h3:=e.2.1 _ (List.mem_of_getElem? (CL_at hi))
 have hp:(part s i k).p=(cellAt s.y i (s.cs.getD i cz).p s.os).p:=rfl
 obtain ⟨hf,hr⟩:=h3
 unfold Ce.fine frame.inR at *
 unfold cell.Rightly at *
 omega
theorem come_good {s:St} (hL:Lens s) (hH:HoldOk s) (e:StepOk s) {k:Nat} (hk:k < s.os.length):(cell.come ((Mk s k).getD (place s.y (s.os.getD k oz).a (s.os.getD k oz).y) cz) (s.os.getD k oz)).2=0:=by
 have hp:=(plK hL hH hk).2
 have hpl:=pl_place hL hH hk
 rw [Mk_getD k hp]
 have h1:=part_ok hL hH e hp k
 have h2:=part_ok hL hH e hp (k+1)
 rw [part_next hk,if_pos hpl] at h2
 have ho:=hH.1 _ (getD_mem (z:=oz) hk)
 unfold cell.come
 rw [cell.right_iff.2 h1.2,order.right_iff.2 ho.1,if_neg (by simp),if_neg (by rw [e.1 _ (getD_mem hk)];simp)]
 rw [cell.good_ok.2 ⟨rfl,h2⟩]
theorem step_come {s:St} (hL:Lens s) (hH:HoldOk s) {k:Nat} (hk:k < s.os.length) (h:¬ (cell.come ((Mk s k).getD (place s.y (s.os.getD k oz).a (s.os.getD k oz).y) cz) (s.os.getD k oz)).2=0):decide (StepOk s)=false:=decide_eq_false (fun e=>h (come_good hL hH e hk))
theorem lstep (v:Sv) (s:St)  (w:World) (h:InS w (Lt w.heap.size) v s) (hL:Lens s) (hH:HoldOk s):Calls Tryz.prog 42 #[.agg (stc v s)] w fun e w'=>e = .returned (.bool (decide (StepOk s)))∧Below w.heap.size w w' :=
 have hlen:=h.len
 have hcs:=cs_len (rangeH hL hH)
 calls_by (fn:=Tryz.f42) (r:=.bool (decide (StepOk s))) (t:=.w (Nat) none (fun x=>.slice (some ⟨x,0,none⟩) s.cs.length s.cs.length) (fun x=>[oC (some ⟨x,0,none⟩) s.cs.length s.cs.length (List.replicate s.cs.length cz)]) (fun x1=>let k0:Option Addr:=some ⟨x1,0,none⟩; .l (Nat) (fun x=>[(1,undef,some (0,0)),(3,.slice k0 s.cs.length s.cs.length,none),(15,.slice v.A2 s.cs.length v.c2,none),(16,.int .i64 (s.cs.length:Int),none),(17,.int .i64 (x:Int),none)]) (fun x=>[]) [0] [] (fun x=>[oC k0 s.cs.length s.cs.length (L1 s x)]) (fun x=>x≤s.cs.length∧∀ j,j < x→cell.right (s.cs.getD j cz)=true) (fun x=>s.cs.length - x) (0:Nat) (fun y2=>.s (.p (blkA v.A2) (offA v.A2+y2 * 4) (cell.cc (s.cs.getD y2 cz)) (.cs (cell.right (s.cs.getD y2 cz)) (.x (.pointer (some ⟨blkA k0,offA k0+y2 * 4,none⟩)) (.w (Unit) (some 0) (fun x=>undef) (fun x=>[oC k0 s.cs.length s.cs.length (L1 s (y2+1))]) (fun x7=>.e (.int .i64 ((y2+1:Nat):Int)) .z))) .z)) (.l (Nat) (fun x=>[(1,undef,some (0,0)),(3,.slice k0 s.cs.length s.cs.length,none),(33,.slice v.A1 s.os.length v.c1,none),(34,.int .i64 (s.os.length:Int),none),(35,.int .i64 (x:Int),none)]) (fun x=>[]) [0] [] (fun x=>[oC k0 s.cs.length s.cs.length (Mk s x)]) (fun x=>x≤s.os.length∧(∀ c ∈ (Mk s x),c.fine)∧∀ o ∈ s.os.take x,(worth o).2=0) (fun x=>s.os.length - x) (0:Nat) (fun y8=>let k1:=s.os.getD y8 order.oz;let k4:=place s.y k1.a k1.y;let k2:=(Mk s y8).getD k4 cz;let k3:Value:=.pointer (some ⟨blkA k0,offA k0+k4 * 4,none⟩);let k5:=cell.come k2 k1; .s (.p (blkA v.A1) (offA v.A1+y8 * 12) (order.oc k1) (.c (.int .i64 (placeV s (k1.a) (k1.y))) (.ow [] [shapeF rdCell 4 60 k0 s.cs.length s.cs.length] (.x k3 (.x (.agg (cell.cc k2)) (.c (.tuple #[.agg (cell.cc (k5.1)),.int .i64 (k5.2)]) (.x k3 (.w (Unit) (some 0) (fun x=>undef) (fun x=>[oC k0 s.cs.length s.cs.length ((Mk s y8).set k4 (k5.1))]) (fun x12=>.s .z (.e (.int .i64 ((y8+1:Nat):Int)) .z)))))))))) (.cs (decide ((Mk s y8)=s.cs)) .z .z)))))) (X :=
 let k0:=(s.cs.length:Int);let k1:=(s.os.length:Int);let k2:=List.replicate s.cs.length cz;let k3:=decide (StepOk s);let k4:=(.bool false:Value); ∀ g0:Nat,let k5:=([some ⟨g0,0,(stc v s),.own 27⟩]:List (Option Blk));let k6:Option Addr:=some ⟨g0,0,none⟩;StepM Tryz.prog w [] (Instr.makeSlice 23 (.int .i64 k0) (.int .i64 k0)) (fun _=>False) (Nat) (fun x=>.slice (some ⟨x,0,none⟩) s.cs.length s.cs.length) (fun x=>[oC (some ⟨x,0,none⟩) s.cs.length s.cs.length k2])∧∀ x1:Nat,let k7:Option Addr:=some ⟨x1,0,none⟩;let k8:List Fact:=[shapeF rdCell 4 60 k7 s.cs.length s.cs.length];let k9:Value:=.slice k7 s.cs.length s.cs.length;Brings w [oC k7 s.cs.length s.cs.length k2] []∧((0:Nat)≤s.cs.length∧∀ j,j < (0:Nat)→cell.right (s.cs.getD j cz)=true)∧(([.pointer k6,.slice k7 s.cs.length s.cs.length,.slice v.A2 s.cs.length v.c2,.int .i64 k0,.int .i64 0]:List Value)=[.pointer k6,.slice k7 s.cs.length s.cs.length,.slice v.A2 s.cs.length v.c2,.int .i64 k0,.int .i64 ((0:Nat):Int)]∧k5=[some ⟨g0,0,(stc v s),.own 27⟩]∧Turns w [oC k7 s.cs.length s.cs.length k2] [oC k7 s.cs.length s.cs.length (L1 s (0:Nat))])∧true=true∧∀ (y2:Nat),let k10:=s.cs.getD y2 cz;let k11:=cell.right k10;let k12:=decide ((y2:Int) < k0);(y2≤s.cs.length∧∀ j,j < y2→cell.right (s.cs.getD j cz)=true)→∀ τ4:Nat→Value,(k12=true→Yields0 Tryz.prog w [oC k7 s.cs.length s.cs.length (L1 s y2)] (Instr.indexAt 23 (.slice v.A2 s.cs.length v.c2) (.int .i64 (y2:Int))) (.pointer (some ⟨blkA v.A2,offA v.A2+y2 * 4,none⟩))∧Reads0 w [] (blkA v.A2) (offA v.A2+y2 * 4) (cell.cc k10)∧∀ g2:Nat,Gives Tryz.prog w [oC k7 s.cs.length s.cs.length (L1 s y2)] 69 #[.agg (cell.cc k10)] (.bool k11)∧(k11=true→Yields0 Tryz.prog w [oC k7 s.cs.length s.cs.length (L1 s y2)] (Instr.indexAt 23 k9 (.int .i64 (y2:Int))) (.pointer (some ⟨blkA k7,offA k7+y2 * 4,none⟩))∧StepU Tryz.prog w [oC k7 s.cs.length s.cs.length (L1 s y2)] (Instr.storeAt 2 (.pointer (some ⟨blkA k7,offA k7+y2 * 4+0,none⟩)) (.int .i64 (k10.p))) ((oC k7 s.cs.length s.cs.length (L1 s y2)).S) (Unit) (fun x=>undef) (fun x=>[oC k7 s.cs.length s.cs.length (L1 s (y2+1))])∧∀ x7:Unit,(.int .i64 (IntKind.i64.wrap ((y2:Int)+1)):Value) = .int .i64 ((y2+1:Nat):Int)∧∃ x' : Nat,(x'≤s.cs.length∧∀ j,j < x'→cell.right (s.cs.getD j cz)=true)∧(s.cs.length - x' < s.cs.length - y2)∧(([.pointer k6,.slice k7 s.cs.length s.cs.length,.slice v.A2 s.cs.length v.c2,.int .i64 k0,.int .i64 ((y2+1:Nat):Int)]:List Value)=[.pointer k6,.slice k7 s.cs.length s.cs.length,.slice v.A2 s.cs.length v.c2,.int .i64 k0,.int .i64 (x' : Int)]∧k5=[some ⟨g0,0,(stc v s),.own 27⟩]∧Turns w [oC k7 s.cs.length s.cs.length (L1 s (y2+1))] [oC k7 s.cs.length s.cs.length (L1 s x')])∧true=true)∧(k11=false→k4 = .bool k3))∧(k12=false→Brings w [oC k7 s.cs.length s.cs.length (L1 s y2)] []∧((0:Nat)≤s.os.length∧(∀ c ∈ (Mk s (0:Nat)),c.fine)∧∀ o ∈ s.os.take (0:Nat),(worth o).2=0)∧(([.pointer k6,.slice k7 s.cs.length s.cs.length,.slice v.A1 s.os.length v.c1,.int .i64 k1,.int .i64 0]:List Value)=[.pointer k6,.slice k7 s.cs.length s.cs.length,.slice v.A1 s.os.length v.c1,.int .i64 k1,.int .i64 ((0:Nat):Int)]∧k5=[some ⟨g0,0,(stc v s),.own 27⟩]∧Turns w [oC k7 s.cs.length s.cs.length (L1 s y2)] [oC k7 s.cs.length s.cs.length (Mk s (0:Nat))])∧true=true∧∀ (y8:Nat),let k13:=s.os.getD y8 order.oz;let k16:=place s.y k13.a k13.y;let k20:=(Mk s y8).getD k16 cz;let k14:=cell.come k20 k13;let k15:Value:=.pointer (some ⟨blkA k7,offA k7+k16 * 4,none⟩);let k17:Value:=.int .i64 (placeV s (k13.a) (k13.y));let k18:=(Mk s y8).set k16 (k14.1);let k19:=decide ((Mk s y8)=s.cs);let k21:=decide ((y8:Int) < k1);(y8≤s.os.length∧(∀ c ∈ (Mk s y8),c.fine)∧∀ o ∈ s.os.take y8,(worth o).2=0)→∀ τ10:Nat→Value,(k21=true→Yields0 Tryz.prog w [oC k7 s.cs.length s.cs.length (Mk s y8)] (Instr.indexAt 22 (.slice v.A1 s.os.length v.c1) (.int .i64 (y8:Int))) (.pointer (some ⟨blkA v.A1,offA v.A1+y8 * 12,none⟩))∧Reads0 w [] (blkA v.A1) (offA v.A1+y8 * 12) (order.oc k13)∧∀ g2:Nat,Gives Tryz.prog w [oC k7 s.cs.length s.cs.length (Mk s y8)] 68 #[.agg (stc v s),.int .i64 (k13.a),.int .i64 (k13.y)] k17∧Imp w [oC k7 s.cs.length s.cs.length (Mk s y8)] k8∧Yields0 Tryz.prog w k8 (Instr.indexAt 23 k9 k17) k15∧Yields0 Tryz.prog w [oC k7 s.cs.length s.cs.length (Mk s y8)] (Instr.loadAt 60 k15) (.agg (cell.cc k20))∧Gives Tryz.prog w [oC k7 s.cs.length s.cs.length (Mk s y8)] 70 #[.agg (cell.cc k20),.agg (order.oc k13)] (.tuple #[.agg (cell.cc (k14.1)),.int .i64 (k14.2)])∧Yields0 Tryz.prog w k8 (Instr.indexAt 23 k9 k17) k15∧(∀ x:Unit,Imp w [oC k7 s.cs.length s.cs.length k18] k8)∧StepU Tryz.prog w [oC k7 s.cs.length s.cs.length (Mk s y8)] (Instr.storeAt 60 k15 (.agg (cell.cc (k14.1)))) ((oC k7 s.cs.length s.cs.length (Mk s y8)).S) (Unit) (fun x=>undef) (fun x=>[oC k7 s.cs.length s.cs.length k18])∧∀ x12:Unit,((!decide ((k14.2)=0))=true→k4 = .bool k3)∧((!decide ((k14.2)=0))=false→(.int .i64 (IntKind.i64.wrap ((y8:Int)+1)):Value) = .int .i64 ((y8+1:Nat):Int)∧∃ x' : Nat,(x'≤s.os.length∧(∀ c ∈ (Mk s x'),c.fine)∧∀ o ∈ s.os.take x',(worth o).2=0)∧(s.os.length - x' < s.os.length - y8)∧(([.pointer k6,.slice k7 s.cs.length s.cs.length,.slice v.A1 s.os.length v.c1,.int .i64 k1,.int .i64 ((y8+1:Nat):Int)]:List Value)=[.pointer k6,.slice k7 s.cs.length s.cs.length,.slice v.A1 s.os.length v.c1,.int .i64 k1,.int .i64 (x' : Int)]∧k5=[some ⟨g0,0,(stc v s),.own 27⟩]∧Turns w [oC k7 s.cs.length s.cs.length k18] [oC k7 s.cs.length s.cs.length (Mk s x')])∧true=true))∧(k21=false→Gives Tryz.prog w [oC k7 s.cs.length s.cs.length (Mk s y8)] 35 #[.slice k7 s.cs.length s.cs.length,.slice v.A2 s.cs.length v.c2] (.bool k19)∧(k19=true→(.bool true:Value) = .bool k3)∧(k19=false→k4 = .bool k3)))) Tryz.func42 (by kernel_rfl)
 (fun g0=>⟨(make_agg keeps_cell Tryz.underlying23 info_cell rfl (fun _=>⟨rfl,cell0_fine⟩) (by omega) (by unfold maxLen;omega)),fun x1=>⟨(fun w _ _=>news_nil),⟨Nat.zero_le _,fun j hj=>absurd hj (Nat.not_lt_zero j)⟩,⟨rfl,rfl,(turns_sub (sub_one (by rw [L1_zero])))⟩,rfl,fun y2 I3 τ4=>⟨fun h5=>have h5:(y2:Int) < (s.cs.length:Int):=(by simpa using h5)
⟨(low_index Tryz.underlying23 info_cell cell_cells (Nat.le_refl _) h.c rfl (by omega)),(low_reads cell_cells (Nat.le_refl _) h.c (at_getD (by omega))),fun g2=>⟨l_cright (fine_ce h.c _ (getD_mem (by omega))),fun h6=>⟨(own_index Tryz.underlying23 info_cell (row_at (j:=0) rfl) (by omega)),⟨(step_to (L1_next (by omega)) (store_part keeps_cell leaf_cell cell_cells (fun _=>rfl) (x:=((L1 s y2).getD y2 cz)) (x':=⟨(s.cs.getD y2 cz).p,((L1 s y2).getD y2 cz).b,((L1 s y2).getD y2 cz).s,((L1 s y2).getD y2 cz).n⟩) (off:=0) (vs:=[.int .i64 ((s.cs.getD y2 cz).p)]) (row_at (j:=0) rfl) (by omega) (at_getD (by rw [L1_len];omega)) rfl (by simp) rfl (fun _=>⟨rfl,⟨(fine_ce h.c _ (getD_mem (by omega))).1,by rw [L1_cz (by omega)];exact ⟨cell0_fine.2.1,cell0_fine.2.2.1,cell0_fine.2.2.2⟩⟩⟩) (fun c hc=>by rw [List.mem_singleton.1 hc];rfl) (by kernel_rfl))),fun x7=>⟨wrap_is (by omega) (by omega) (by omega),⟨((y2+1):Nat),⟨by omega,lt_step I3.2 h6⟩,(by omega),⟨rfl,rfl,(turns_sub (.cons_cons _ (List.nil_sublist _)))⟩,rfl⟩⟩⟩⟩,
 fun h6=>(by rw [step_right (j:=y2) (by omega) h6])⟩⟩,
 fun h5=>have h5:¬ (y2:Int) < (s.cs.length:Int):=(by simpa using h5)
⟨(fun w _ _=>news_nil),⟨Nat.zero_le _,Mk_fine0 h,by simp⟩,⟨rfl,rfl,(turns_sub (sub_one (by rw [L1_end (show s.cs.length≤y2 by omega)])))⟩,rfl,fun y8 I9 τ10=>⟨fun h11=>have h11:(y8:Int) < (s.os.length:Int):=(by simpa using h11)
⟨(low_index Tryz.underlying22 info_order order_cells (Nat.le_refl _) h.o rfl (by omega)),(low_reads order_cells (Nat.le_refl _) h.o (at_getD (by omega))),fun g2=>⟨gives (lplace v s _ _),⟨fun w _ ha=>⟨⟨_,ha.1⟩,trivial⟩,⟨(index_at (plK hL hH (show y8 < s.os.length by omega)).1 (shape_index Tryz.underlying23 info_cell (i:=0) rfl (plK hL hH (show y8 < s.os.length by omega)).2)),⟨(own_loadA keeps_cell (by decide) cell_cells (fun _=>rfl) Tryz.underlying60 rfl (by kernel_rfl) (x:=((Mk s y8).getD (place s.y (s.os.getD y8 order.oz).a (s.os.getD y8 order.oz).y) cz)) (row_at (j:=0) rfl) (at_getD (by rw [Mk_len];exact (plK hL hH (show y8 < s.os.length by omega)).2))),⟨l_come (I9.2.1 _ (getD_mem (by rw [Mk_len];exact (plK hL hH (show y8 < s.os.length by omega)).2))) (fine_or h.o _ (getD_mem (by omega))),⟨(index_at (plK hL hH (show y8 < s.os.length by omega)).1 (shape_index Tryz.underlying23 info_cell (i:=0) rfl (plK hL hH (show y8 < s.os.length by omega)).2)),⟨fun x w _ ha=>⟨⟨_,ha.1⟩,trivial⟩,(store_agg keeps_cell leaf_cell info_cell (row_at (j:=0) rfl) (plK hL hH (show y8 < s.os.length by omega)).2 rfl (fun _=>⟨rfl,(cell.come_fine (e:=(cell.come ((Mk s y8).getD (place s.y (s.os.getD y8 order.oz).a (s.os.getD y8 order.oz).y) cz) (s.os.getD y8 order.oz)).2) (I9.2.1 _ (getD_mem (by rw [Mk_len];exact (plK hL hH (show y8 < s.os.length by omega)).2))) rfl)⟩)),fun x12=>⟨fun h13=>have h13:¬ ((cell.come ((Mk s y8).getD (place s.y (s.os.getD y8 order.oz).a (s.os.getD y8 order.oz).y) cz) (s.os.getD y8 order.oz)).2)=0:=(by simpa using h13)
(by rw [step_come hL hH (k:=y8) (by omega) (by simpa using h13)]),
 fun h13=>have h13:((cell.come ((Mk s y8).getD (place s.y (s.os.getD y8 order.oz).a (s.os.getD y8 order.oz).y) cz) (s.os.getD y8 order.oz)).2)=0:=(by simpa using h13)
⟨wrap_is (by omega) (by omega) (by omega),⟨((y8+1):Nat),⟨by omega,Mk_next_fine hL hH (by omega) I9.2.1 h13,worth_nx (by omega) I9.2.2 (come_worth h13)⟩,(by omega),⟨rfl,rfl,(turns_sub (by rw [← (Mk_next hL hH (show y8 < s.os.length by omega) h13)];exact .cons_cons _ (List.nil_sublist _)))⟩,rfl⟩⟩⟩⟩⟩⟩⟩⟩⟩⟩⟩,
 fun h11=>have h11:¬ (y8:Int) < (s.os.length:Int):=(by simpa using h11)
⟨(fun w hw ha=>by have:=lequal (some ⟨x1,0,none⟩) s.cs.length (Mk s y8) v.A2 v.c2 s.cs w ((row_at (j:=0) rfl w ha).reads keeps_cell (by decide)) (h.later hw).c ⟨by rw [Mk_len];omega,by omega⟩;rw [Mk_len] at this;exact this),fun h14=>(by rw [step_yes h (fun j hj=>I3.2 j (by omega)) (show s.os.length≤y8 by omega) I9.2.2 (of_decide_eq_true h14)]),
 fun h14=>(by rw [step_ne (show s.os.length≤y8 by omega) (of_decide_eq_false h14)])⟩⟩⟩⟩⟩⟩)
end Go.Proofs.YtbbjlfbemibfcaaGreat.book
end
section
namespace Go.Proofs.YtbbjlfbemibfcaaGreat.book
open Go.RowKit Go.Proofs.YtbbjlfbemibfcaaGreat
open Go.Proofs.YtbbjlfbemibfcaaGreat.order (Or open_ worth)
open Go.Proofs.YtbbjlfbemibfcaaGreat.cell (Ce Ex)
open Go.Proofs.YtbbjlfbemibfcaaGreat.rec (Rc)
set_option maxRecDepth 20000
open Go.Proofs.YtbbjlfbemibfcaaGreat.order (oz)
theorem lens_of {s:St} (hz:SizeOk s.a s.y) (hc:CountOk s):Lens s:=⟨hz,hc.1.1,hc.1.2.1,hc.1.2.2⟩
theorem right_parts {s:St} (h:Rightly s):SizeOk s.a s.y∧CountOk s∧BoundOk s∧HoldOk s∧StepOk s∧OpenOk s:=by
 obtain ⟨h1,h2,h3,h4,h5,h6,h7,h8⟩:=h
 refine ⟨h1,⟨h2,h4.2.2,h3⟩,⟨h5,h6⟩,⟨h4.1,h4.2.1⟩,⟨h7.1,?_,h8.symm⟩,h7.2.2⟩
 rw [show CL s=s.cs from h8.symm];exact h7.2.1
theorem right_all {s:St} (h1:SizeOk s.a s.y) (h2:CountOk s) (h3:BoundOk s) (h4:HoldOk s) (h5:StepOk s) (h6:OpenOk s):right s=true:=by
 refine right_iff.2 ⟨h1,h2.1,h2.2.2,⟨h4.1,h4.2,h2.2.1⟩,h3.1,h3.2,⟨h5.1,?_,h6⟩,h5.2.2.symm⟩
 have:=h5.2.1
 rw [h5.2.2] at this;exact this
theorem lright (v:Sv) (s:St)  (w:World) (h:InS w (Lt w.heap.size) v s):Calls Tryz.prog 18 #[.agg (stc v s)] w fun e w'=>e = .returned (.bool (right s))∧Below w.heap.size w w' :=
 have hlen:=h.len
 calls_by (fn:=Tryz.f18) (r:=.bool (right s)) (t:=.cs (decide (SizeOk s.a s.y)) (.k (.cs (decide (CountOk s)) (.k (.cs (decide (BoundOk s)) (.k (.cs (decide (HoldOk s)) (.k (.cs (decide (StepOk s)) (.k (.cs (decide (OpenOk s)) .z .z)) (.k .z))) (.k (.k .z)))) (.k (.k (.k .z))))) (.k (.k (.k (.k .z)))))) (.k (.k (.k (.k (.k .z)))))) (X :=
 let k0:=(.bool false:Value);let k1:=decide (SizeOk s.a s.y);let k2:Array Value:=#[.agg (stc v s)];let k3:=decide (CountOk s);let k4:=decide (BoundOk s);let k5:=decide (HoldOk s);let k6:=decide (StepOk s);let k7:=decide (OpenOk s); ∀ g0:Nat,Gives Tryz.prog w [] 38 #[.int .i64 s.a,.int .i64 s.y] (.bool k1)∧(k1=true→Gives Tryz.prog w [] 39 k2 (.bool k3)∧(k3=true→Gives Tryz.prog w [] 40 k2 (.bool k4)∧(k4=true→Gives Tryz.prog w [] 41 k2 (.bool k5)∧(k5=true→Gives Tryz.prog w [] 42 k2 (.bool k6)∧(k6=true→Gives Tryz.prog w [] 43 k2 (.bool k7)∧(k7=true→(.bool true:Value) = .bool (right s))∧(k7=false→k0 = .bool (right s)))∧(k6=false→k0 = .bool (right s)))∧(k5=false→k0 = .bool (right s)))∧(k4=false→k0 = .bool (right s)))∧(k3=false→k0 = .bool (right s)))∧(k1=false→k0 = .bool (right s))) Tryz.func18 (by kernel_rfl)
 (fun g0=>⟨gives (lsize s.a s.y),fun h1=>⟨(fun w hw _=>lcount v s w (h.later hw) (of_decide_eq_true h1)),fun h2=>⟨(fun w hw _=>lbound v s w (h.later hw)),fun h3=>⟨(fun w hw _=>lhold v s w (h.later hw) (of_decide_eq_true h1) (of_decide_eq_true h2).2.2.1),fun h4=>⟨(fun w hw _=>lstep v s w (h.later hw) (lens_of (of_decide_eq_true h1) (of_decide_eq_true h2)) (of_decide_eq_true h4)),fun h5=>⟨(fun w hw _=>lopen v s w (h.later hw) (lens_of (of_decide_eq_true h1) (of_decide_eq_true h2))),fun h6=>(by rw [right_all (of_decide_eq_true h1) (of_decide_eq_true h2) (of_decide_eq_true h3) (of_decide_eq_true h4) (of_decide_eq_true h5) (of_decide_eq_true h6)]),
 fun h6=>(by rw [right_no.2 (fun e=>(of_decide_eq_false h6) (right_parts e).2.2.2.2.2)])⟩,
 fun h5=>(by rw [right_no.2 (fun e=>(of_decide_eq_false h5) (right_parts e).2.2.2.2.1)])⟩,
 fun h4=>(by rw [right_no.2 (fun e=>(of_decide_eq_false h4) (right_parts e).2.2.2.1)])⟩,
 fun h3=>(by rw [right_no.2 (fun e=>(of_decide_eq_false h3) (right_parts e).2.2.1)])⟩,
 fun h2=>(by rw [right_no.2 (fun e=>(of_decide_eq_false h2) (right_parts e).2.1)])⟩,
 fun h1=>(by rw [right_no.2 (fun e=>(of_decide_eq_false h1) (right_parts e).1)])⟩)
theorem lask (v:Sv) (s:St) (r:Rc)  (w:World) (h:InS w (Lt w.heap.size) v s) (hrf:r.fine):Calls Tryz.prog 44 #[.agg (stc v s),.agg (rec.rc r)] w fun e w'=>e = .returned (.bool (!decide (Wrong s r)))∧Below w.heap.size w w' :=
 have hlen:=h.len
 calls_by (fn:=Tryz.f44) (r:=.bool (!decide (Wrong s r))) (t:=.cs (right s) (.k (.cs (rec.right r) (.k (.s (.k (.s (.k (.s (.k (.s (.k .z) (.k (.s .z .z)))) (.k .z))) (.k (.k .z)))) (.k (.k (.k .z))))) (.k (.k (.k (.k .z)))))) (.k (.k (.k (.k (.k .z)))))) (X :=
 let k0 := !decide (Wrong s r);let k1:=(.bool false:Value);let k2:=decide (s.lsn < 1000000000);let k3:=decide (r.o > s.last); ∀ g0:Nat,∀ g1:Nat,Gives Tryz.prog w [] 18 #[.agg (stc v s)] (.bool (right s))∧((right s)=true→Gives Tryz.prog w [] 73 #[.agg (rec.rc r)] (.bool (rec.right r))∧((rec.right r)=true→(k2=true→((decide (r.a < s.a))=true→((decide (r.y < s.y))=true→((!decide (r.k=1))=true→(.bool true:Value) = .bool k0)∧((!decide (r.k=1))=false→(k3=true→(.bool true:Value) = .bool k0)∧(k3=false→k1 = .bool k0)))∧((decide (r.y < s.y))=false→k1 = .bool k0))∧((decide (r.a < s.a))=false→k1 = .bool k0))∧(k2=false→k1 = .bool k0))∧((rec.right r)=false→k1 = .bool k0))∧((right s)=false→k1 = .bool k0)) Tryz.func44 (by kernel_rfl)
 (fun g0=>fun g1=>⟨(fun w hw _=>lright v s w (h.later hw)),fun h1=>⟨l_rec hrf,fun h2=>⟨fun h3=>have h3:s.lsn < 1000000000:=(by simpa using h3)
⟨fun h4=>have h4:r.a < s.a:=(by simpa using h4)
⟨fun h5=>have h5:r.y < s.y:=(by simpa using h5)
⟨fun h6=>have h6:¬ r.k=1:=(by simpa using h6)
(by rw [decide_eq_false (wrong_no h1 h2 (by omega) (by omega) (by omega) (fun _=>by omega))]<;>rfl),
 fun h6=>have h6:r.k=1:=(by simpa using h6)
⟨fun h7=>have h7:s.last < r.o:=(by simpa using h7)
(by rw [decide_eq_false (wrong_no h1 h2 (by omega) (by omega) (by omega) (fun _=>by omega))]<;>rfl),
 fun h7=>have h7:¬ s.last < r.o:=(by simpa using h7)
(by rw [decide_eq_true (show Wrong s r from by unfold Wrong;right;right;omega)]<;>rfl)⟩⟩,
 fun h5=>have h5:¬ r.y < s.y:=(by simpa using h5)
(by rw [decide_eq_true (show Wrong s r from by unfold Wrong;right;right;omega)]<;>rfl)⟩,
 fun h4=>have h4:¬ r.a < s.a:=(by simpa using h4)
(by rw [decide_eq_true (show Wrong s r from by unfold Wrong;right;right;omega)]<;>rfl)⟩,
 fun h3=>have h3:¬ s.lsn < 1000000000:=(by simpa using h3)
(by rw [decide_eq_true (show Wrong s r from by unfold Wrong;right;right;omega)]<;>rfl)⟩,
 fun h2=>(by rw [decide_eq_true (show Wrong s r from .inr (.inl h2))]<;>rfl)⟩,
 fun h1=>(by rw [decide_eq_true (show Wrong s r from .inl h1)]<;>rfl)⟩)
end Go.Proofs.YtbbjlfbemibfcaaGreat.book
end
