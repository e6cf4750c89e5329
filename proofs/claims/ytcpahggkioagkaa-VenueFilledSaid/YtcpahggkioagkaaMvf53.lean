/-
  VenFilledW
-/
import Derived.Test.YtcpahggkioagkaaMvf50
import Derived.Test.YtcpahggkioagkaaMvf51
import Derived.Test.YtcpahggkioagkaaMvf52
set_option linter.unusedVariables false
set_option linter.unusedSimpArgs false
namespace Go.Proofs.Ytcpahggkioagkaa.venue
open Go.RowKit Go.Proofs.Ytcpahggkioagkaa
open Go.Proofs.Ytcpahggkioagkaa.order (Or oz open_)
open Go.Proofs.Ytcpahggkioagkaa.rec (Rc)
open Go.Proofs.Ytcpahggkioagkaa.book (v_oright v_ofnote v_take v_begin v_open v_change l_rec nt_fine)
set_option maxRecDepth 20000
open Go.Proofs.Ytcpahggkioagkaa.order (Rightly)
theorem gives_b {w0:World} {D:List Fact} {P:Program} {f:FuncId} {args:Array Value} {b c:Bool} (h:b=c) (g:Gives P w0 D f args (.bool b)):Gives P w0 D f args (.bool c):=h▸g
section
variable {os:List Or} {ns:List order.Nt} {o p:Or} {n:order.Nt} {j k:Nat} {id:Int} {s:Vn}
theorem right_nil:right ⟨[],[],[]⟩=true:=by decide
theorem sc_1 (h:(ns.getD k nz).o=id) (ht:(ns.getD k nz).t=1):scU id ns (k+1)=((scU id ns k).1,(scU id ns k).2.1+1,false):=by rw [sc_yes h];unfold scStep;rw [if_pos (.inl ht),ht];rfl
theorem sc_2 (h:(ns.getD k nz).o=id) (ht:(ns.getD k nz).t=2):scU id ns (k+1)=((scU id ns k).1,(scU id ns k).2.1+1,true):=by rw [sc_yes h];unfold scStep;rw [if_pos (.inr ht),ht];rfl
theorem sc_3 (h:(ns.getD k nz).o=id) (ht:(ns.getD k nz).t=3):scU id ns (k+1)=((scU id ns k).1+(ns.getD k nz).q,(scU id ns k).2.1,(scU id ns k).2.2):=by rw [sc_yes h];unfold scStep;rw [if_neg (by omega),if_pos ht]
theorem sc_4 (h:(ns.getD k nz).o=id) (ht:(ns.getD k nz).t=4):scU id ns (k+1)=((scU id ns k).1,(scU id ns k).2.1,true):=by rw [sc_yes h];unfold scStep;rw [if_neg (by omega),if_neg (by omega),if_pos ht]
theorem sc_5 (h:(ns.getD k nz).o=id) (h1:¬ (ns.getD k nz).t=1) (h2:¬ (ns.getD k nz).t=2) (h3:¬ (ns.getD k nz).t=3) (h4:¬ (ns.getD k nz).t=4):scU id ns (k+1)=scU id ns k:=by rw [sc_yes h];unfold scStep;rw [if_neg (by omega),if_neg h3,if_neg h4]
theorem note_q (h:right s=true) (hk:k < s.ns.length) (ht:(s.ns.getD k nz).t=3):1≤(s.ns.getD k nz).q:=by
 have h1:=order.noteOk_iff.1 ((right_up h).2.2 k hk).2
 have h2:=h1.2.2
 rw [ht] at h2
 exact (order.tell_fill h2).1
theorem sc_grow (h:right s=true) (hk:k < s.ns.length):(scU id s.ns k).1≤(scU id s.ns (k+1)).1∧(scU id s.ns k).2.1≤(scU id s.ns (k+1)).2.1∧(scU id s.ns (k+1)).2.1≤(scU id s.ns k).2.1+1:=by
 by_cases ho:(s.ns.getD k nz).o=id
 ·by_cases t1:(s.ns.getD k nz).t=1
  ·rw [sc_1 ho t1];exact ⟨Int.le_refl _,by show _≤(scU id s.ns k).2.1+1;omega,Int.le_refl _⟩
  by_cases t2:(s.ns.getD k nz).t=2
  ·rw [sc_2 ho t2];exact ⟨Int.le_refl _,by show _≤(scU id s.ns k).2.1+1;omega,Int.le_refl _⟩
  by_cases t3:(s.ns.getD k nz).t=3
  ·have:=note_q h hk t3
   rw [sc_3 ho t3];exact ⟨by show _≤(scU id s.ns k).1+(s.ns.getD k nz).q;omega,Int.le_refl _,by show (scU id s.ns k).2.1≤_;omega⟩
  by_cases t4:(s.ns.getD k nz).t=4
  ·rw [sc_4 ho t4];exact ⟨Int.le_refl _,Int.le_refl _,by show (scU id s.ns k).2.1≤_;omega⟩
  rw [sc_5 ho t1 t2 t3 t4];exact ⟨Int.le_refl _,Int.le_refl _,by omega⟩
 ·rw [sc_no ho];exact ⟨Int.le_refl _,Int.le_refl _,by omega⟩
theorem sc_low (h:right s=true):∀ k,k≤s.ns.length→0≤(scU id s.ns k).1∧0≤(scU id s.ns k).2.1∧(scU id s.ns k).2.1≤k
 | 0,_=>⟨Int.le_refl _,Int.le_refl _,Int.le_refl _⟩
 |k+1,hk=>by
  have h1:=sc_low h k (by omega)
  have h2:=sc_grow (id:=id) h (k:=k) (by omega)
  omega
theorem sc_up (h:right s=true):∀ d k,k+d=s.ns.length→(scU id s.ns k).1≤(scU id s.ns s.ns.length).1
 | 0,k,e=>by rw [← e];exact Int.le_refl _
 |d+1,k,e=>by
  have h1:=sc_up h d (k+1) (by omega)
  have h2:=(sc_grow (id:=id) h (k:=k) (by omega)).1
  omega
theorem sc_top (h:right s=true) (hf:Fil s.os s.ns) (ho:∀ o ∈ s.os,o.fine):(scU id s.ns s.ns.length).1≤9223372036854775807:=by
 rcases find_rng (l:=s.os) (id:=id) with e | ⟨j,hj,_,e,_⟩
 ·rw [hf.none id (find_none e)];decide
 ·have h1:=hf.some j hj
  rw [e] at h1
  have h2:frame.inR (s.os.getD j oz).f:=(ho _ (getD_mem hj)).2.2.2.2.2.2.1
  unfold frame.inR at h2
  have:=h1.2.1
  omega
theorem sc_rng (h:right s=true) (hf:Fil s.os s.ns) (ho:∀ o ∈ s.os,o.fine) (hk:k≤s.ns.length):0≤(scU id s.ns k).2.1∧(scU id s.ns k).2.1≤400∧0≤(scU id s.ns k).1∧(scU id s.ns k).1≤9223372036854775807:=by
 have h1:=sc_low (id:=id) h k hk
 have h2:=sc_up (id:=id) h (s.ns.length - k) k (by omega)
 have h3:=sc_top (id:=id) h hf ho
 have h4:=(right_len h).2.2
 omega
theorem sc_sum (h:right s=true) (hf:Fil s.os s.ns) (ho:∀ o ∈ s.os,o.fine) (hk:k < s.ns.length) (h1:(s.ns.getD k nz).o=id) (h3:(s.ns.getD k nz).t=3):0≤(scU id s.ns k).1+(s.ns.getD k nz).q∧(scU id s.ns k).1+(s.ns.getD k nz).q≤9223372036854775807:=by
 have:=sc_rng (id:=id) h hf ho (k:=k+1) (by omega)
 rw [sc_3 h1 h3] at this
 exact this.2.2
theorem fin_no (hf:Fil os ns) (hk:k=ns.length) (h:findV os id < 0):(scU id ns k).1=0∧(scU id ns k).2.1=0∧findV os id = -1:=by
 subst hk
 have e:=hf.none id (find_none (s:=⟨[],os,ns⟩) (find_neg h))
 rw [e];exact ⟨rfl,rfl,find_neg h⟩
theorem fin_yes (hf:Fil os ns) (hk:k=ns.length) (h:¬ findV os id < 0):(findV os id).toNat < os.length∧findV os id=((findV os id).toNat:Int)∧(scU id ns k).2.1=1∧(os.getD (findV os id).toNat oz).f=(scU id ns k).1∧((scU id ns k).2.2=true→(os.getD (findV os id).toNat oz).h=3)∧(¬ (scU id ns k).2.2=true→((os.getD (findV os id).toNat oz).h=3 ↔ (os.getD (findV os id).toNat oz).f=(os.getD (findV os id).toNat oz).q)):=by
 subst hk
 obtain ⟨a1,a2,a3⟩:=find_nat (find_pos h)
 have e:=hf.some _ a2
 rw [a3] at e
 exact ⟨a2,a1,e.1,e.2.1,fun h1=>e.2.2.2 (.inl h1),fun h1=>⟨fun h2=>(e.2.2.1 h2).resolve_left h1,fun h2=>e.2.2.2 (.inr h2)⟩⟩
end
set_option maxHeartbeats 8000000 in
theorem fwalk0 (A:Option Addr) (c:Nat) (l:List Dd)  (w:World) (hx:Elems rdDeed 5 w (Lt w.heap.size) A l) (hl:l.length≤9223372036854775807):Calls Try.prog 4 #[.slice A l.length c] w fun e w'=>e = .returned (.bool true)∧Below w.heap.size w w' :=
 calls_by (fn:=Try.f4) (r:=.bool true) (t:=.c (.bool true) (.s .z (.l (Nat × DV w) (fun x=>[(0,.slice A l.length c,none),(3,undef,some (0,0)),(4,.int .i64 (x.1:Int),none)]) (fun x=>[(0,#[.slice x.2.1.2.2.1.A1 x.2.1.2.2.2.l.length x.2.1.2.2.1.c1,.slice x.2.1.2.2.1.A2 x.2.1.2.2.2.os.length x.2.1.2.2.1.c2,.slice x.2.1.2.2.1.A3 x.2.1.2.2.2.ns.length x.2.1.2.2.1.c3])]) [0] [poolF w (fun _=>False)] (fun x=>[poolF x.2.1.1 x.2.1.2.1]) (fun x=>x.1≤l.length∧right x.2.1.2.2.2=true∧Fil x.2.1.2.2.2.os x.2.1.2.2.2.ns) (fun x=>l.length - x.1) ((0,dv0 w):Nat × DV w) (fun y2=>let k0:=deedV y2.2.1.2.2.2 (l.getD y2.1 dz); .s (.o [0] (.p (blkA A) (offA A+y2.1 * 5) (ddc (l.getD y2.1 dz)) (.cm (Dat (fun w S v=>InV w S v k0) (Un (fun _=>False) y2.2.1.2.1) y2.2.1.1) (fun x=>.agg (vc x.1.2.2 k0)) (fun x=>[poolF x.1.1 x.1.2.1]) (fun x6=>.e (.int .i64 ((y2.1+1:Nat):Int)) .z)))) (.l (Nat) (fun x=>[(3,undef,some (0,0)),(5,.int .i64 ((x+1:Nat):Int),none)]) (fun x=>[]) [0] [] (fun x=>[poolF y2.2.1.1 y2.2.1.2.1]) (fun x=>x≤8) (fun x=>8 - x) (0:Nat) (fun y7=>let k1:=((y7+1:Nat):Int);let k2:Value:=.int .i64 (((y7+1:Nat)+1:Nat):Int);let k3:=findV y2.2.1.2.2.2.os k1; .s (.c (.int .i64 k3) (.l (Nat) (fun x=>[(3,undef,some (0,0)),(5,.int .i64 k1,none),(6,.int .i64 k3,none),(7,.int .i64 ((scU k1 y2.2.1.2.2.2.ns x).1),none),(8,.int .i64 ((scU k1 y2.2.1.2.2.2.ns x).2.1),none),(9,.bool ((scU k1 y2.2.1.2.2.2.ns x).2.2),none),(10,.int .i64 (x:Int),none)]) (fun x=>[]) [0] [] (fun x=>[poolF y2.2.1.1 y2.2.1.2.1]) (fun x=>x≤y2.2.1.2.2.2.ns.length∧y2.2.1.2.2.2.ns.length≤400) (fun x=>y2.2.1.2.2.2.ns.length - x) (0:Nat) (fun y11=>let k4:Value:=.int .i64 ((y11+1:Nat):Int);let k8:=scU k1 y2.2.1.2.2.2.ns y11;let k5:Value:=.int .i64 ((k8.2.1)+1);let k7:=y2.2.1.2.2.2.ns.getD y11 nz;let k6:Value:=.int .i64 ((k8.1)+k7.q); .s (.q (blkA y2.2.1.2.2.1.A3) (offA y2.2.1.2.2.1.A3+y11 * 5) (order.nc k7) (.s (.e k4 .z) (.s (.k .z) (.k (.s (.k (.s .z (.s (.e k5 (.m false (.e k4 .z))) (.s (.e k5 (.m true (.e k4 .z))) (.s (.e k6 (.e k4 .z)) (.s (.e k4 .z) (.e k4 .z))))))) (.k (.s (.e k5 (.m false (.e k4 .z))) (.s (.e k5 (.m true (.e k4 .z))) (.s (.e k6 (.e k4 .z)) (.s (.e k4 .z) (.e k4 .z))))))))))) (.s (.k (.k .z)) (.k (.s (.s (.k (.k (.s .z (.m true (.q (blkA y2.2.1.2.2.1.A2) (offA y2.2.1.2.2.1.A2+(k3.toNat) * 12) (order.oc (y2.2.1.2.2.2.os.getD (k3.toNat) order.oz)) (.s (.k (.k .z)) (.k (.s (.k .z) (.k (.s (.s (.k (.k (.e k2 .z))) (.k (.s (.k (.e k2 .z)) (.k .z)))) (.s (.k (.k .z)) (.k (.s (.k .z) (.k (.e k2 .z))))))))))))))) (.k (.k .z))) (.s (.k (.k .z)) (.k (.k (.s .z (.m false (.e k2 .z)))))))))))) (.c (.bool true) .z))))))) (X :=
 let k0:=(.bool false:Value) = .bool true;let k1:=(l.length:Int);let k2:=(.bool true:Value) = .bool true;Gives Try.prog w [] 6 #[] (.bool true)∧((decide (k1 > 60))=true→k2)∧((decide (k1 > 60))=false→∀ g0:Nat,let k3:Option Addr:=some ⟨g0,0,none⟩;Brings w [] [poolF w (fun _=>False)]∧(((0,dv0 w):Nat × DV w).1≤l.length∧right ((0,dv0 w):Nat × DV w).2.1.2.2.2=true∧Fil ((0,dv0 w):Nat × DV w).2.1.2.2.2.os ((0,dv0 w):Nat × DV w).2.1.2.2.2.ns)∧(([.slice A l.length c,.pointer k3,.int .i64 0]:List Value)=[.slice A l.length c,.pointer k3,.int .i64 (((0,dv0 w):Nat × DV w).1:Int)]∧([some ⟨g0,0,#[.slice none 0 0,.slice none 0 0,.slice none 0 0],.own 26⟩]:List (Option Blk))=[some ⟨g0,0,#[.slice (((0,dv0 w):Nat × DV w).2.1.2.2.1.A1) (((0,dv0 w):Nat × DV w).2.1.2.2.2.l.length) (((0,dv0 w):Nat × DV w).2.1.2.2.1.c1),.slice (((0,dv0 w):Nat × DV w).2.1.2.2.1.A2) (((0,dv0 w):Nat × DV w).2.1.2.2.2.os.length) (((0,dv0 w):Nat × DV w).2.1.2.2.1.c2),.slice (((0,dv0 w):Nat × DV w).2.1.2.2.1.A3) (((0,dv0 w):Nat × DV w).2.1.2.2.2.ns.length) (((0,dv0 w):Nat × DV w).2.1.2.2.1.c3)],.own 26⟩]∧Turns w [poolF w (fun _=>False)] [poolF ((0,dv0 w):Nat × DV w).2.1.1 ((0,dv0 w):Nat × DV w).2.1.2.1])∧true=true∧∀ (y2:Nat × DV w),let k6:=vc y2.2.1.2.2.1 y2.2.1.2.2.2;let k4:=([some ⟨g0,0,k6,.own 26⟩]:List (Option Blk));let k5:List Fact:=[poolF y2.2.1.1 y2.2.1.2.1];let k9:=l.getD y2.1 dz;let k7:=deedV y2.2.1.2.2.2 k9;let k8:=(y2.2.1.2.2.2.os.length:Int);let k10:=(y2.2.1.2.2.2.ns.length:Int);let k11:=decide ((y2.1:Int) < k1);(y2.1≤l.length∧right y2.2.1.2.2.2=true∧Fil y2.2.1.2.2.2.os y2.2.1.2.2.2.ns)→∀ τ4:Nat→Value,(k11=true→Yields0 Try.prog w k5 (Instr.indexAt 46 (.slice A l.length c) (.int .i64 (y2.1:Int))) (.pointer (some ⟨blkA A,offA A+y2.1 * 5,none⟩))∧Reads0 w [] (blkA A) (offA A+y2.1 * 5) (ddc k9)∧GivesM Try.prog w k5 23 #[.agg k6,.agg (ddc k9)] (Dat (fun w S v=>InV w S v k7) (Un (fun _=>False) y2.2.1.2.1) y2.2.1.1) (fun x=>.agg (vc x.1.2.2 k7)) (fun x=>[poolF x.1.1 x.1.2.1])∧∀ x6:Dat (fun w S v=>InV w S v k7) (Un (fun _=>False) y2.2.1.2.1) y2.2.1.1,(.int .i64 (IntKind.i64.wrap ((y2.1:Int)+1)):Value) = .int .i64 ((y2.1+1:Nat):Int)∧∃ x' : Nat × DV w,(x'.1≤l.length∧right x'.2.1.2.2.2=true∧Fil x'.2.1.2.2.2.os x'.2.1.2.2.2.ns)∧(l.length - x'.1 < l.length - y2.1)∧(([.slice A l.length c,.pointer k3,.int .i64 ((y2.1+1:Nat):Int)]:List Value)=[.slice A l.length c,.pointer k3,.int .i64 (x'.1:Int)]∧([some ⟨g0,0,(vc x6.1.2.2 k7),.own 26⟩]:List (Option Blk))=[some ⟨g0,0,#[.slice x'.2.1.2.2.1.A1 x'.2.1.2.2.2.l.length x'.2.1.2.2.1.c1,.slice x'.2.1.2.2.1.A2 x'.2.1.2.2.2.os.length x'.2.1.2.2.1.c2,.slice x'.2.1.2.2.1.A3 x'.2.1.2.2.2.ns.length x'.2.1.2.2.1.c3],.own 26⟩]∧Turns w [poolF x6.1.1 x6.1.2.1,poolF y2.2.1.1 y2.2.1.2.1] [poolF x'.2.1.1 x'.2.1.2.1])∧true=true)∧(k11=false→Brings w k5 []∧((0:Nat)≤8)∧(([.pointer k3,.int .i64 1]:List Value)=[.pointer k3,.int .i64 (((0:Nat)+1:Nat):Int)]∧k4=[some ⟨g0,0,k6,.own 26⟩]∧Turns w k5 k5)∧true=true∧∀ (y7:Nat),let k12:=((y7+1:Nat):Int);let k13:=findV y2.2.1.2.2.2.os k12;let k14:=y2.2.1.2.2.2.os.getD (k13.toNat) order.oz;let k15:=(((y7+1:Nat)+1:Nat):Int);let k16:=(.int .i64 (IntKind.i64.wrap (k12+1)):Value);let k17:=([.pointer k3,.int .i64 k15]:List Value);let k18:=decide (k13 ≥ 0);let k19:=scU k12 y2.2.1.2.2.2.ns (0:Nat);let k20:=decide (k13 ≥ k8);(y7≤8)→∀ τ9:Nat→Value,((decide (k12≤8))=true→Gives Try.prog w k5 12 #[.agg k6,.int .i64 k12] (.int .i64 k13)∧Brings w k5 []∧((0:Nat)≤y2.2.1.2.2.2.ns.length∧y2.2.1.2.2.2.ns.length≤400)∧(([.pointer k3,.int .i64 k12,.int .i64 k13,.int .i64 0,.int .i64 0,.bool false,.int .i64 0]:List Value)=[.pointer k3,.int .i64 k12,.int .i64 k13,.int .i64 (k19.1),.int .i64 (k19.2.1),.bool (k19.2.2),.int .i64 ((0:Nat):Int)]∧k4=[some ⟨g0,0,k6,.own 26⟩]∧Turns w k5 k5)∧true=true∧∀ (y11:Nat),let k21:=scU k12 y2.2.1.2.2.2.ns y11;let k22:=y2.2.1.2.2.2.ns.getD y11 nz;let k23:=(.int .i64 (IntKind.i64.wrap ((y11:Int)+1)):Value);let k24:=((y11+1:Nat):Int);let k25:=([.pointer k3,.int .i64 k12,.int .i64 k13,.int .i64 (k21.1),.int .i64 (k21.2.1),.bool (k21.2.2),.int .i64 k24]:List Value);let k32:=(k21.2.1)+1;let k26:=(.int .i64 (IntKind.i64.wrap k32):Value);let k34:=(k21.1)+k22.q;let k27:=([.pointer k3,.int .i64 k12,.int .i64 k13,.int .i64 k34,.int .i64 (k21.2.1),.bool (k21.2.2),.int .i64 k24]:List Value);let k28:=([.pointer k3,.int .i64 k12,.int .i64 k13,.int .i64 (k21.1),.int .i64 k32,.bool false,.int .i64 k24]:List Value);let k29:=([.pointer k3,.int .i64 k12,.int .i64 k13,.int .i64 (k21.1),.int .i64 k32,.bool true,.int .i64 k24]:List Value);let k30:=([.pointer k3,.int .i64 k12,.int .i64 k13,.int .i64 (k21.1),.int .i64 (k21.2.1),.bool true,.int .i64 k24]:List Value);let k31:=decide (k22.t=2);let k33:=decide ((k21.1)=k14.q);let k35:=decide (k22.t=1);let k36:=decide (k22.t=3);let k37:=decide (k22.t=4);let k38:=(.int .i64 (IntKind.i64.wrap k34):Value);let k39:=decide ((y11:Int) < k10);let k40 := !decide (k14.f=(k21.1));let k41:=decide ((k21.1) > k14.q);(y11≤y2.2.1.2.2.2.ns.length∧y2.2.1.2.2.2.ns.length≤400)→∀ τ13:Nat→Value,(k39=true→Yields0 Try.prog w k5 (Instr.indexAt 24 (.slice y2.2.1.2.2.1.A3 y2.2.1.2.2.2.ns.length y2.2.1.2.2.1.c3) (.int .i64 (y11:Int))) (.pointer (some ⟨blkA y2.2.1.2.2.1.A3,offA y2.2.1.2.2.1.A3+y11 * 5,none⟩))∧Reads0 w k5 (blkA y2.2.1.2.2.1.A3) (offA y2.2.1.2.2.1.A3+y11 * 5) (order.nc k22)∧∀ g2:Nat,((!decide (k22.o=k12))=true→k23 = .int .i64 k24∧∃ x' : Nat,(x'≤y2.2.1.2.2.2.ns.length∧y2.2.1.2.2.2.ns.length≤400)∧(y2.2.1.2.2.2.ns.length - x' < y2.2.1.2.2.2.ns.length - y11)∧(k25=[.pointer k3,.int .i64 k12,.int .i64 k13,.int .i64 ((scU k12 y2.2.1.2.2.2.ns x').1),.int .i64 ((scU k12 y2.2.1.2.2.2.ns x').2.1),.bool ((scU k12 y2.2.1.2.2.2.ns x').2.2),.int .i64 (x' : Int)]∧k4=[some ⟨g0,0,k6,.own 26⟩]∧Turns w k5 k5)∧true=true)∧((!decide (k22.o=k12))=false→((k21.2.2)=true→k0)∧((k21.2.2)=false→((decide ((k21.2.1)=0))=true→((decide (k22.t > 2))=true→k0)∧((decide (k22.t > 2))=false→(k35=true→k26 = .int .i64 k32∧k31=false∧k23 = .int .i64 k24∧∃ x' : Nat,(x'≤y2.2.1.2.2.2.ns.length∧y2.2.1.2.2.2.ns.length≤400)∧(y2.2.1.2.2.2.ns.length - x' < y2.2.1.2.2.2.ns.length - y11)∧(k28=[.pointer k3,.int .i64 k12,.int .i64 k13,.int .i64 ((scU k12 y2.2.1.2.2.2.ns x').1),.int .i64 ((scU k12 y2.2.1.2.2.2.ns x').2.1),.bool ((scU k12 y2.2.1.2.2.2.ns x').2.2),.int .i64 (x' : Int)]∧k4=[some ⟨g0,0,k6,.own 26⟩]∧Turns w k5 k5)∧true=true)∧(k35=false→(k31=true→k26 = .int .i64 k32∧k31=true∧k23 = .int .i64 k24∧∃ x' : Nat,(x'≤y2.2.1.2.2.2.ns.length∧y2.2.1.2.2.2.ns.length≤400)∧(y2.2.1.2.2.2.ns.length - x' < y2.2.1.2.2.2.ns.length - y11)∧(k29=[.pointer k3,.int .i64 k12,.int .i64 k13,.int .i64 ((scU k12 y2.2.1.2.2.2.ns x').1),.int .i64 ((scU k12 y2.2.1.2.2.2.ns x').2.1),.bool ((scU k12 y2.2.1.2.2.2.ns x').2.2),.int .i64 (x' : Int)]∧k4=[some ⟨g0,0,k6,.own 26⟩]∧Turns w k5 k5)∧true=true)∧(k31=false→(k36=true→k38 = .int .i64 k34∧k23 = .int .i64 k24∧∃ x' : Nat,(x'≤y2.2.1.2.2.2.ns.length∧y2.2.1.2.2.2.ns.length≤400)∧(y2.2.1.2.2.2.ns.length - x' < y2.2.1.2.2.2.ns.length - y11)∧(k27=[.pointer k3,.int .i64 k12,.int .i64 k13,.int .i64 ((scU k12 y2.2.1.2.2.2.ns x').1),.int .i64 ((scU k12 y2.2.1.2.2.2.ns x').2.1),.bool ((scU k12 y2.2.1.2.2.2.ns x').2.2),.int .i64 (x' : Int)]∧k4=[some ⟨g0,0,k6,.own 26⟩]∧Turns w k5 k5)∧true=true)∧(k36=false→(k37=true→k23 = .int .i64 k24∧∃ x' : Nat,(x'≤y2.2.1.2.2.2.ns.length∧y2.2.1.2.2.2.ns.length≤400)∧(y2.2.1.2.2.2.ns.length - x' < y2.2.1.2.2.2.ns.length - y11)∧(k30=[.pointer k3,.int .i64 k12,.int .i64 k13,.int .i64 ((scU k12 y2.2.1.2.2.2.ns x').1),.int .i64 ((scU k12 y2.2.1.2.2.2.ns x').2.1),.bool ((scU k12 y2.2.1.2.2.2.ns x').2.2),.int .i64 (x' : Int)]∧k4=[some ⟨g0,0,k6,.own 26⟩]∧Turns w k5 k5)∧true=true)∧(k37=false→k23 = .int .i64 k24∧∃ x' : Nat,(x'≤y2.2.1.2.2.2.ns.length∧y2.2.1.2.2.2.ns.length≤400)∧(y2.2.1.2.2.2.ns.length - x' < y2.2.1.2.2.2.ns.length - y11)∧(k25=[.pointer k3,.int .i64 k12,.int .i64 k13,.int .i64 ((scU k12 y2.2.1.2.2.2.ns x').1),.int .i64 ((scU k12 y2.2.1.2.2.2.ns x').2.1),.bool ((scU k12 y2.2.1.2.2.2.ns x').2.2),.int .i64 (x' : Int)]∧k4=[some ⟨g0,0,k6,.own 26⟩]∧Turns w k5 k5)∧true=true))))))∧((decide ((k21.2.1)=0))=false→(k35=true→k26 = .int .i64 k32∧k31=false∧k23 = .int .i64 k24∧∃ x' : Nat,(x'≤y2.2.1.2.2.2.ns.length∧y2.2.1.2.2.2.ns.length≤400)∧(y2.2.1.2.2.2.ns.length - x' < y2.2.1.2.2.2.ns.length - y11)∧(k28=[.pointer k3,.int .i64 k12,.int .i64 k13,.int .i64 ((scU k12 y2.2.1.2.2.2.ns x').1),.int .i64 ((scU k12 y2.2.1.2.2.2.ns x').2.1),.bool ((scU k12 y2.2.1.2.2.2.ns x').2.2),.int .i64 (x' : Int)]∧k4=[some ⟨g0,0,k6,.own 26⟩]∧Turns w k5 k5)∧true=true)∧(k35=false→(k31=true→k26 = .int .i64 k32∧k31=true∧k23 = .int .i64 k24∧∃ x' : Nat,(x'≤y2.2.1.2.2.2.ns.length∧y2.2.1.2.2.2.ns.length≤400)∧(y2.2.1.2.2.2.ns.length - x' < y2.2.1.2.2.2.ns.length - y11)∧(k29=[.pointer k3,.int .i64 k12,.int .i64 k13,.int .i64 ((scU k12 y2.2.1.2.2.2.ns x').1),.int .i64 ((scU k12 y2.2.1.2.2.2.ns x').2.1),.bool ((scU k12 y2.2.1.2.2.2.ns x').2.2),.int .i64 (x' : Int)]∧k4=[some ⟨g0,0,k6,.own 26⟩]∧Turns w k5 k5)∧true=true)∧(k31=false→(k36=true→k38 = .int .i64 k34∧k23 = .int .i64 k24∧∃ x' : Nat,(x'≤y2.2.1.2.2.2.ns.length∧y2.2.1.2.2.2.ns.length≤400)∧(y2.2.1.2.2.2.ns.length - x' < y2.2.1.2.2.2.ns.length - y11)∧(k27=[.pointer k3,.int .i64 k12,.int .i64 k13,.int .i64 ((scU k12 y2.2.1.2.2.2.ns x').1),.int .i64 ((scU k12 y2.2.1.2.2.2.ns x').2.1),.bool ((scU k12 y2.2.1.2.2.2.ns x').2.2),.int .i64 (x' : Int)]∧k4=[some ⟨g0,0,k6,.own 26⟩]∧Turns w k5 k5)∧true=true)∧(k36=false→(k37=true→k23 = .int .i64 k24∧∃ x' : Nat,(x'≤y2.2.1.2.2.2.ns.length∧y2.2.1.2.2.2.ns.length≤400)∧(y2.2.1.2.2.2.ns.length - x' < y2.2.1.2.2.2.ns.length - y11)∧(k30=[.pointer k3,.int .i64 k12,.int .i64 k13,.int .i64 ((scU k12 y2.2.1.2.2.2.ns x').1),.int .i64 ((scU k12 y2.2.1.2.2.2.ns x').2.1),.bool ((scU k12 y2.2.1.2.2.2.ns x').2.2),.int .i64 (x' : Int)]∧k4=[some ⟨g0,0,k6,.own 26⟩]∧Turns w k5 k5)∧true=true)∧(k37=false→k23 = .int .i64 k24∧∃ x' : Nat,(x'≤y2.2.1.2.2.2.ns.length∧y2.2.1.2.2.2.ns.length≤400)∧(y2.2.1.2.2.2.ns.length - x' < y2.2.1.2.2.2.ns.length - y11)∧(k25=[.pointer k3,.int .i64 k12,.int .i64 k13,.int .i64 ((scU k12 y2.2.1.2.2.2.ns x').1),.int .i64 ((scU k12 y2.2.1.2.2.2.ns x').2.1),.bool ((scU k12 y2.2.1.2.2.2.ns x').2.2),.int .i64 (x' : Int)]∧k4=[some ⟨g0,0,k6,.own 26⟩]∧Turns w k5 k5)∧true=true))))))))∧(k39=false→((decide ((k21.2.1) > 1))=true→k0)∧((decide ((k21.2.1) > 1))=false→((decide ((k21.2.1)=1))=true→(k18=true→(k20=true→k0)∧(k20=false→k18=true∧Yields0 Try.prog w k5 (Instr.indexAt 23 (.slice y2.2.1.2.2.1.A2 y2.2.1.2.2.2.os.length y2.2.1.2.2.1.c2) (.int .i64 k13)) (.pointer (some ⟨blkA y2.2.1.2.2.1.A2,offA y2.2.1.2.2.1.A2+(k13.toNat) * 12,none⟩))∧Reads0 w k5 (blkA y2.2.1.2.2.1.A2) (offA y2.2.1.2.2.1.A2+(k13.toNat) * 12) (order.oc k14)∧∀ g2:Nat,(k40=true→k0)∧(k40=false→(k41=true→k0)∧(k41=false→((decide (k14.h=3))=true→((k21.2.2)=true→k16 = .int .i64 k15∧∃ x' : Nat,(x'≤8)∧(8 - x' < 8 - y7)∧(k17=[.pointer k3,.int .i64 ((x'+1:Nat):Int)]∧k4=[some ⟨g0,0,k6,.own 26⟩]∧Turns w k5 k5)∧true=true)∧((k21.2.2)=false→(k33=true→k16 = .int .i64 k15∧∃ x' : Nat,(x'≤8)∧(8 - x' < 8 - y7)∧(k17=[.pointer k3,.int .i64 ((x'+1:Nat):Int)]∧k4=[some ⟨g0,0,k6,.own 26⟩]∧Turns w k5 k5)∧true=true)∧(k33=false→k0)))∧((decide (k14.h=3))=false→((k21.2.2)=true→k0)∧((k21.2.2)=false→(k33=true→k0)∧(k33=false→k16 = .int .i64 k15∧∃ x' : Nat,(x'≤8)∧(8 - x' < 8 - y7)∧(k17=[.pointer k3,.int .i64 ((x'+1:Nat):Int)]∧k4=[some ⟨g0,0,k6,.own 26⟩]∧Turns w k5 k5)∧true=true)))))))∧(k18=false→k0))∧((decide ((k21.2.1)=1))=false→(k18=true→k0)∧(k18=false→(k20=true→k0)∧(k20=false→k18=false∧k16 = .int .i64 k15∧∃ x' : Nat,(x'≤8)∧(8 - x' < 8 - y7)∧(k17=[.pointer k3,.int .i64 ((x'+1:Nat):Int)]∧k4=[some ⟨g0,0,k6,.own 26⟩]∧Turns w k5 k5)∧true=true))))))∧((decide (k12≤8))=false→Gives Try.prog w k5 8 #[.agg k6] (.bool true)∧k2)))) Try.func4 (by kernel_rfl)
 (⟨(fun w1 _ _=>awake16 w1),⟨fun h1=>have h1:60 < (l.length:Int):=(by simpa using h1)
 rfl,
 fun h1=>have h1:¬ 60 < (l.length:Int):=(by simpa using h1)
 fun g0=>⟨(fun _ _ _=>news_pool0),⟨Nat.zero_le _,right_nil,fil_nil⟩,⟨rfl,rfl,(turns_sub (.cons_cons _ (List.nil_sublist _)))⟩,rfl,fun y2 I3 τ4=>⟨fun h5=>have h5:(y2.1:Int) < (l.length:Int):=(by simpa using h5)
⟨(low_index Try.underlying46 info_deed deed_cells (Nat.le_refl _) hx rfl (by omega)),(low_reads deed_cells (Nat.le_refl _) hx (at_getD (by omega))),⟨(g_deed (dv_fixed y2.2 (i:=0) rfl) (dv_in y2.2 (i:=0) rfl) (deed_ok hx _ (getD_mem (by omega)))),fun x6=>⟨wrap_is (by omega) (by omega) (by omega),⟨((y2.1+1,dvN y2.2 x6):Nat × DV w),⟨by dsimp only;omega,(deed_step I3.2.1).1,fil_step I3.2.2 (mono_of (right_up I3.2.1).2.1) (deed_step I3.2.1).2⟩,(by dsimp only;omega),⟨rfl,rfl,(turns_dv y2.2 x6)⟩,rfl⟩⟩⟩⟩,
 fun h5=>have h5:¬ (y2.1:Int) < (l.length:Int):=(by simpa using h5)
⟨(fun w _ _=>news_nil),(Nat.zero_le _),⟨rfl,rfl,(turns_sub (.cons_cons _ (List.nil_sublist _)))⟩,rfl,fun y7 I8 τ9=>⟨fun h10=>have h10:¬ 8 < ((y7+1:Nat):Int):=(by simpa using h10)
⟨(g_vfind rfl (dv_all y2.2 (i:=0) rfl)),⟨(fun w _ _=>news_nil),⟨Nat.zero_le _,(right_len I3.2.1).2.2⟩,⟨rfl,rfl,(turns_sub (.cons_cons _ (List.nil_sublist _)))⟩,rfl,fun y11 I12 τ13=>⟨fun h14=>have h14:(y11:Int) < (y2.2.1.2.2.2.ns.length:Int):=(by simpa using h14)
⟨(el_index Try.underlying24 info_nt (fun w1 hw ha=>⟨_,(dv_in y2.2 (i:=0) rfl w1 hw ha).n⟩) rfl (by omega)),(el_reads nt_cells (fun w1 hw ha=>⟨_,(dv_in y2.2 (i:=0) rfl w1 hw ha).n⟩) (at_getD (by omega))),fun g2=>⟨fun h15=>have h15:¬ (y2.2.1.2.2.2.ns.getD y11 nz).o=((y7+1:Nat):Int):=(by simpa using h15)
⟨wrap_is (by omega) (by omega) (by omega),⟨((y11+1):Nat),⟨by omega,I12.2⟩,(by omega),⟨(by first | (rw [(sc_no h15)];done) | (rw [(sc_no h15)]<;>rfl) | (rw [(sc_no h15)];simp [])),rfl,(turns_sub (.cons_cons _ (List.nil_sublist _)))⟩,rfl⟩⟩,
 fun h15=>have h15:(y2.2.1.2.2.2.ns.getD y11 nz).o=((y7+1:Nat):Int):=(by simpa using h15)
⟨fun h16=>(by exfalso;have hg:=I3.2.2.turn ((y7+1:Nat):Int) y11 (by omega) h15;rw [hg.1] at h16;cases h16),
 fun h16=>⟨fun h17=>have h17:((scU ((y7+1:Nat):Int) y2.2.1.2.2.2.ns y11).2.1)=0:=(by simpa using h17)
⟨fun h18=>have h18:2 < (y2.2.1.2.2.2.ns.getD y11 nz).t:=(by simpa using h18)
(by exfalso;have hg:=I3.2.2.turn ((y7+1:Nat):Int) y11 (by omega) h15;have hg2:=hg.2 (by omega);omega),
 fun h18=>have h18:¬ 2 < (y2.2.1.2.2.2.ns.getD y11 nz).t:=(by simpa using h18)
⟨fun h19=>have h19:(y2.2.1.2.2.2.ns.getD y11 nz).t=1:=(by simpa using h19)
⟨wrap_is rfl (by have hg:=sc_rng I3.2.1 I3.2.2 (fine_or y2.2.2.1.o) (k:=y11) (by omega) (id:=((y7+1:Nat):Int));omega) (by have hg:=sc_rng I3.2.1 I3.2.2 (fine_or y2.2.2.1.o) (k:=y11) (by omega) (id:=((y7+1:Nat):Int));omega),⟨by first | (simp;done) | (simp only [dq];omega),⟨wrap_is (by omega) (by omega) (by omega),⟨((y11+1):Nat),⟨by omega,I12.2⟩,(by omega),⟨(by first | (rw [(sc_1 h15 h19)];done) | (rw [(sc_1 h15 h19)]<;>rfl) | (rw [(sc_1 h15 h19)];simp [h16])),rfl,(turns_sub (.cons_cons _ (List.nil_sublist _)))⟩,rfl⟩⟩⟩⟩,
 fun h19=>have h19:¬ (y2.2.1.2.2.2.ns.getD y11 nz).t=1:=(by simpa using h19)
⟨fun h20=>have h20:(y2.2.1.2.2.2.ns.getD y11 nz).t=2:=(by simpa using h20)
⟨wrap_is rfl (by have hg:=sc_rng I3.2.1 I3.2.2 (fine_or y2.2.2.1.o) (k:=y11) (by omega) (id:=((y7+1:Nat):Int));omega) (by have hg:=sc_rng I3.2.1 I3.2.2 (fine_or y2.2.2.1.o) (k:=y11) (by omega) (id:=((y7+1:Nat):Int));omega),⟨by first | (simp;done) | (simp only [dq];omega),⟨wrap_is (by omega) (by omega) (by omega),⟨((y11+1):Nat),⟨by omega,I12.2⟩,(by omega),⟨(by first | (rw [(sc_2 h15 h20)];done) | (rw [(sc_2 h15 h20)]<;>rfl) | (rw [(sc_2 h15 h20)];simp [h16])),rfl,(turns_sub (.cons_cons _ (List.nil_sublist _)))⟩,rfl⟩⟩⟩⟩,
 fun h20=>have h20:¬ (y2.2.1.2.2.2.ns.getD y11 nz).t=2:=(by simpa using h20)
⟨fun h21=>have h21:(y2.2.1.2.2.2.ns.getD y11 nz).t=3:=(by simpa using h21)
⟨wrap_is rfl (by have hg:=sc_sum I3.2.1 I3.2.2 (fine_or y2.2.2.1.o) (k:=y11) (id:=((y7+1:Nat):Int)) (by omega) h15 h21;omega) (by have hg:=sc_sum I3.2.1 I3.2.2 (fine_or y2.2.2.1.o) (k:=y11) (id:=((y7+1:Nat):Int)) (by omega) h15 h21;omega),⟨wrap_is (by omega) (by omega) (by omega),⟨((y11+1):Nat),⟨by omega,I12.2⟩,(by omega),⟨(by first | (rw [(sc_3 h15 h21)];done) | (rw [(sc_3 h15 h21)]<;>rfl) | (rw [(sc_3 h15 h21)];simp [h16])),rfl,(turns_sub (.cons_cons _ (List.nil_sublist _)))⟩,rfl⟩⟩⟩,
 fun h21=>have h21:¬ (y2.2.1.2.2.2.ns.getD y11 nz).t=3:=(by simpa using h21)
⟨fun h22=>have h22:(y2.2.1.2.2.2.ns.getD y11 nz).t=4:=(by simpa using h22)
⟨wrap_is (by omega) (by omega) (by omega),⟨((y11+1):Nat),⟨by omega,I12.2⟩,(by omega),⟨(by first | (rw [(sc_4 h15 h22)];done) | (rw [(sc_4 h15 h22)]<;>rfl) | (rw [(sc_4 h15 h22)];simp [h16])),rfl,(turns_sub (.cons_cons _ (List.nil_sublist _)))⟩,rfl⟩⟩,
 fun h22=>have h22:¬ (y2.2.1.2.2.2.ns.getD y11 nz).t=4:=(by simpa using h22)
⟨wrap_is (by omega) (by omega) (by omega),⟨((y11+1):Nat),⟨by omega,I12.2⟩,(by omega),⟨(by first | (rw [(sc_5 h15 (by omega) (by omega) (by omega) (by omega))];done) | (rw [(sc_5 h15 (by omega) (by omega) (by omega) (by omega))]<;>rfl) | (rw [(sc_5 h15 (by omega) (by omega) (by omega) (by omega))];simp [h16])),rfl,(turns_sub (.cons_cons _ (List.nil_sublist _)))⟩,rfl⟩⟩⟩⟩⟩⟩⟩,
 fun h17=>have h17:¬ ((scU ((y7+1:Nat):Int) y2.2.1.2.2.2.ns y11).2.1)=0:=(by simpa using h17)
⟨fun h23=>have h23:(y2.2.1.2.2.2.ns.getD y11 nz).t=1:=(by simpa using h23)
⟨wrap_is rfl (by have hg:=sc_rng I3.2.1 I3.2.2 (fine_or y2.2.2.1.o) (k:=y11) (by omega) (id:=((y7+1:Nat):Int));omega) (by have hg:=sc_rng I3.2.1 I3.2.2 (fine_or y2.2.2.1.o) (k:=y11) (by omega) (id:=((y7+1:Nat):Int));omega),⟨by first | (simp;done) | (simp only [dq];omega),⟨wrap_is (by omega) (by omega) (by omega),⟨((y11+1):Nat),⟨by omega,I12.2⟩,(by omega),⟨(by first | (rw [(sc_1 h15 h23)];done) | (rw [(sc_1 h15 h23)]<;>rfl) | (rw [(sc_1 h15 h23)];simp [h16])),rfl,(turns_sub (.cons_cons _ (List.nil_sublist _)))⟩,rfl⟩⟩⟩⟩,
 fun h23=>have h23:¬ (y2.2.1.2.2.2.ns.getD y11 nz).t=1:=(by simpa using h23)
⟨fun h24=>have h24:(y2.2.1.2.2.2.ns.getD y11 nz).t=2:=(by simpa using h24)
⟨wrap_is rfl (by have hg:=sc_rng I3.2.1 I3.2.2 (fine_or y2.2.2.1.o) (k:=y11) (by omega) (id:=((y7+1:Nat):Int));omega) (by have hg:=sc_rng I3.2.1 I3.2.2 (fine_or y2.2.2.1.o) (k:=y11) (by omega) (id:=((y7+1:Nat):Int));omega),⟨by first | (simp;done) | (simp only [dq];omega),⟨wrap_is (by omega) (by omega) (by omega),⟨((y11+1):Nat),⟨by omega,I12.2⟩,(by omega),⟨(by first | (rw [(sc_2 h15 h24)];done) | (rw [(sc_2 h15 h24)]<;>rfl) | (rw [(sc_2 h15 h24)];simp [h16])),rfl,(turns_sub (.cons_cons _ (List.nil_sublist _)))⟩,rfl⟩⟩⟩⟩,
 fun h24=>have h24:¬ (y2.2.1.2.2.2.ns.getD y11 nz).t=2:=(by simpa using h24)
⟨fun h25=>have h25:(y2.2.1.2.2.2.ns.getD y11 nz).t=3:=(by simpa using h25)
⟨wrap_is rfl (by have hg:=sc_sum I3.2.1 I3.2.2 (fine_or y2.2.2.1.o) (k:=y11) (id:=((y7+1:Nat):Int)) (by omega) h15 h25;omega) (by have hg:=sc_sum I3.2.1 I3.2.2 (fine_or y2.2.2.1.o) (k:=y11) (id:=((y7+1:Nat):Int)) (by omega) h15 h25;omega),⟨wrap_is (by omega) (by omega) (by omega),⟨((y11+1):Nat),⟨by omega,I12.2⟩,(by omega),⟨(by first | (rw [(sc_3 h15 h25)];done) | (rw [(sc_3 h15 h25)]<;>rfl) | (rw [(sc_3 h15 h25)];simp [h16])),rfl,(turns_sub (.cons_cons _ (List.nil_sublist _)))⟩,rfl⟩⟩⟩,
 fun h25=>have h25:¬ (y2.2.1.2.2.2.ns.getD y11 nz).t=3:=(by simpa using h25)
⟨fun h26=>have h26:(y2.2.1.2.2.2.ns.getD y11 nz).t=4:=(by simpa using h26)
⟨wrap_is (by omega) (by omega) (by omega),⟨((y11+1):Nat),⟨by omega,I12.2⟩,(by omega),⟨(by first | (rw [(sc_4 h15 h26)];done) | (rw [(sc_4 h15 h26)]<;>rfl) | (rw [(sc_4 h15 h26)];simp [h16])),rfl,(turns_sub (.cons_cons _ (List.nil_sublist _)))⟩,rfl⟩⟩,
 fun h26=>have h26:¬ (y2.2.1.2.2.2.ns.getD y11 nz).t=4:=(by simpa using h26)
⟨wrap_is (by omega) (by omega) (by omega),⟨((y11+1):Nat),⟨by omega,I12.2⟩,(by omega),⟨(by first | (rw [(sc_5 h15 (by omega) (by omega) (by omega) (by omega))];done) | (rw [(sc_5 h15 (by omega) (by omega) (by omega) (by omega))]<;>rfl) | (rw [(sc_5 h15 (by omega) (by omega) (by omega) (by omega))];simp [h16])),rfl,(turns_sub (.cons_cons _ (List.nil_sublist _)))⟩,rfl⟩⟩⟩⟩⟩⟩⟩⟩⟩⟩,
 fun h14=>have h14:¬ (y11:Int) < (y2.2.1.2.2.2.ns.length:Int):=(by simpa using h14)
⟨fun h27=>have h27:1 < ((scU ((y7+1:Nat):Int) y2.2.1.2.2.2.ns y11).2.1):=(by simpa using h27)
(by exfalso;rcases Int.lt_or_le (findV y2.2.1.2.2.2.os ((y7+1:Nat):Int)) 0 with hz | hz;have a:=fin_no I3.2.2 (k:=y11) (by omega) hz;omega;have a:=fin_yes I3.2.2 (k:=y11) (by omega) (by omega:¬ findV y2.2.1.2.2.2.os ((y7+1:Nat):Int) < 0);omega),
 fun h27=>have h27:¬ 1 < ((scU ((y7+1:Nat):Int) y2.2.1.2.2.2.ns y11).2.1):=(by simpa using h27)
⟨fun h28=>have h28:((scU ((y7+1:Nat):Int) y2.2.1.2.2.2.ns y11).2.1)=1:=(by simpa using h28)
⟨fun h29=>have h29:¬ (findV y2.2.1.2.2.2.os ((y7+1:Nat):Int)) < 0:=(by simpa using h29)
⟨fun h30=>have h30:¬ (findV y2.2.1.2.2.2.os ((y7+1:Nat):Int)) < (y2.2.1.2.2.2.os.length:Int):=(by simpa using h30)
(by exfalso;have a:=fin_yes I3.2.2 (k:=y11) (by omega) h29;have g:=(known I3.2.1 a.1).1;unfold order.Rightly at g;omega),
 fun h30=>have h30:(findV y2.2.1.2.2.2.os ((y7+1:Nat):Int)) < (y2.2.1.2.2.2.os.length:Int):=(by simpa using h30)
⟨by first | (simp;done) | (simp only [dq];omega),⟨(index_at (find_nat (find_pos h29)).1 (el_index Try.underlying23 info_order (fun w1 hw ha=>⟨_,(dv_in y2.2 (i:=0) rfl w1 hw ha).o⟩) rfl (find_nat (find_pos h29)).2.1)),(el_reads order_cells (fun w1 hw ha=>⟨_,(dv_in y2.2 (i:=0) rfl w1 hw ha).o⟩) (at_getD (find_nat (find_pos h29)).2.1)),fun g2=>⟨fun h31=>have h31:¬ (y2.2.1.2.2.2.os.getD ((findV y2.2.1.2.2.2.os ((y7+1:Nat):Int)).toNat) order.oz).f=((scU ((y7+1:Nat):Int) y2.2.1.2.2.2.ns y11).1):=(by simpa using h31)
(by exfalso;have a:=fin_yes I3.2.2 (k:=y11) (by omega) h29;have g:=(known I3.2.1 a.1).1;unfold order.Rightly at g;omega),
 fun h31=>have h31:(y2.2.1.2.2.2.os.getD ((findV y2.2.1.2.2.2.os ((y7+1:Nat):Int)).toNat) order.oz).f=((scU ((y7+1:Nat):Int) y2.2.1.2.2.2.ns y11).1):=(by simpa using h31)
⟨fun h32=>have h32:(y2.2.1.2.2.2.os.getD ((findV y2.2.1.2.2.2.os ((y7+1:Nat):Int)).toNat) order.oz).q < ((scU ((y7+1:Nat):Int) y2.2.1.2.2.2.ns y11).1):=(by simpa using h32)
(by exfalso;have a:=fin_yes I3.2.2 (k:=y11) (by omega) h29;have g:=(known I3.2.1 a.1).1;unfold order.Rightly at g;omega),
 fun h32=>have h32:¬ (y2.2.1.2.2.2.os.getD ((findV y2.2.1.2.2.2.os ((y7+1:Nat):Int)).toNat) order.oz).q < ((scU ((y7+1:Nat):Int) y2.2.1.2.2.2.ns y11).1):=(by simpa using h32)
⟨fun h33=>have h33:(y2.2.1.2.2.2.os.getD ((findV y2.2.1.2.2.2.os ((y7+1:Nat):Int)).toNat) order.oz).h=3:=(by simpa using h33)
⟨fun h34=>⟨wrap_is (by omega) (by omega) (by omega),⟨((y7+1):Nat),(by omega),(by omega),⟨rfl,rfl,(turns_sub (.cons_cons _ (List.nil_sublist _)))⟩,rfl⟩⟩,
 fun h34=>⟨fun h35=>have h35:((scU ((y7+1:Nat):Int) y2.2.1.2.2.2.ns y11).1)=(y2.2.1.2.2.2.os.getD ((findV y2.2.1.2.2.2.os ((y7+1:Nat):Int)).toNat) order.oz).q:=(by simpa using h35)
⟨wrap_is (by omega) (by omega) (by omega),⟨((y7+1):Nat),(by omega),(by omega),⟨rfl,rfl,(turns_sub (.cons_cons _ (List.nil_sublist _)))⟩,rfl⟩⟩,
 fun h35=>have h35:¬ ((scU ((y7+1:Nat):Int) y2.2.1.2.2.2.ns y11).1)=(y2.2.1.2.2.2.os.getD ((findV y2.2.1.2.2.2.os ((y7+1:Nat):Int)).toNat) order.oz).q:=(by simpa using h35)
(by exfalso;have a:=fin_yes I3.2.2 (k:=y11) (by omega) h29;have g:=(known I3.2.1 a.1).1;unfold order.Rightly at g;have e:=a.2.2.2.2.2 (by rw [h34];decide);omega)⟩⟩,
 fun h33=>have h33:¬ (y2.2.1.2.2.2.os.getD ((findV y2.2.1.2.2.2.os ((y7+1:Nat):Int)).toNat) order.oz).h=3:=(by simpa using h33)
⟨fun h36=>(by exfalso;have a:=fin_yes I3.2.2 (k:=y11) (by omega) h29;have g:=(known I3.2.1 a.1).1;unfold order.Rightly at g;have e:=a.2.2.2.2.1 h36;omega),
 fun h36=>⟨fun h37=>have h37:((scU ((y7+1:Nat):Int) y2.2.1.2.2.2.ns y11).1)=(y2.2.1.2.2.2.os.getD ((findV y2.2.1.2.2.2.os ((y7+1:Nat):Int)).toNat) order.oz).q:=(by simpa using h37)
(by exfalso;have a:=fin_yes I3.2.2 (k:=y11) (by omega) h29;have g:=(known I3.2.1 a.1).1;unfold order.Rightly at g;have e:=a.2.2.2.2.2 (by rw [h36];decide);omega),
 fun h37=>have h37:¬ ((scU ((y7+1:Nat):Int) y2.2.1.2.2.2.ns y11).1)=(y2.2.1.2.2.2.os.getD ((findV y2.2.1.2.2.2.os ((y7+1:Nat):Int)).toNat) order.oz).q:=(by simpa using h37)
⟨wrap_is (by omega) (by omega) (by omega),⟨((y7+1):Nat),(by omega),(by omega),⟨rfl,rfl,(turns_sub (.cons_cons _ (List.nil_sublist _)))⟩,rfl⟩⟩⟩⟩⟩⟩⟩⟩⟩⟩,
 fun h29=>have h29:(findV y2.2.1.2.2.2.os ((y7+1:Nat):Int)) < 0:=(by simpa using h29)
(by exfalso;have a:=fin_no I3.2.2 (k:=y11) (by omega) h29;omega)⟩,
 fun h28=>have h28:¬ ((scU ((y7+1:Nat):Int) y2.2.1.2.2.2.ns y11).2.1)=1:=(by simpa using h28)
⟨fun h38=>have h38:¬ (findV y2.2.1.2.2.2.os ((y7+1:Nat):Int)) < 0:=(by simpa using h38)
(by exfalso;have a:=fin_yes I3.2.2 (k:=y11) (by omega) h38;have g:=(known I3.2.1 a.1).1;unfold order.Rightly at g;omega),
 fun h38=>have h38:(findV y2.2.1.2.2.2.os ((y7+1:Nat):Int)) < 0:=(by simpa using h38)
⟨fun h39=>have h39:¬ (findV y2.2.1.2.2.2.os ((y7+1:Nat):Int)) < (y2.2.1.2.2.2.os.length:Int):=(by simpa using h39)
(by exfalso;have a:=fin_no I3.2.2 (k:=y11) (by omega) h38;omega),
 fun h39=>have h39:(findV y2.2.1.2.2.2.os ((y7+1:Nat):Int)) < (y2.2.1.2.2.2.os.length:Int):=(by simpa using h39)
⟨by first | (simp;done) | (simp only [dq];omega),⟨wrap_is (by omega) (by omega) (by omega),⟨((y7+1):Nat),(by omega),(by omega),⟨rfl,rfl,(turns_sub (.cons_cons _ (List.nil_sublist _)))⟩,rfl⟩⟩⟩⟩⟩⟩⟩⟩⟩⟩,
 fun h10=>have h10:8 < ((y7+1:Nat):Int):=(by simpa using h10)
⟨(gives_b I3.2.1 (g_vright (dv_all y2.2 (i:=0) rfl))),rfl⟩⟩⟩⟩⟩⟩⟩)
end Go.Proofs.Ytcpahggkioagkaa.venue
