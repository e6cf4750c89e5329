/-
  VenC
-/
import Derived.Test.YtcpahggkioagkaaMvf20
import Derived.Test.YtcpahggkioagkaaMvf32
set_option linter.unusedVariables false
set_option linter.unusedSimpArgs false
namespace Go.Proofs.Ytcpahggkioagkaa.venue
set_option maxRecDepth 20000
open Go.RowKit Go.Proofs.Ytcpahggkioagkaa
open Go.Proofs.Ytcpahggkioagkaa.order (Or oz open_)
theorem each_take {α:Type} {R:Rd α} {size:Nat} {w:World} {S:Nat→Prop} : ∀ {css:List (List Value)} {xs:List α} (i:Nat),Each R size w S css xs→Each R size w S (css.take i) (xs.take i)
 | _,_,0,_=>trivial
 | [],[],_+1,_=>trivial
 | [],_ :: _,_+1,h=>h.elim
 | _ :: _,[],_+1,h=>h.elim
 | _ :: _,_ :: _,i+1,h=>⟨h.1,h.2.1,each_take i h.2.2⟩
theorem each_drop {α:Type} {R:Rd α} {size:Nat} {w:World} {S:Nat→Prop} : ∀ {css:List (List Value)} {xs:List α} (i:Nat),Each R size w S css xs→Each R size w S (css.drop i) (xs.drop i)
 | _,_,0,h=>h
 | [],[],_+1,_=>trivial
 | [],_ :: _,_+1,h=>h.elim
 | _ :: _,[],_+1,h=>h.elim
 | _ :: _,_ :: _,i+1,h=>each_drop i h.2.2
theorem flat_take {size:Nat} : ∀ (css:List (List Value)) (i:Nat),(∀ x ∈ css,x.length=size)→(css.take i).flatten=css.flatten.take (i * size)
 | [],i,_=>by simp
 |c :: css,0,_=>by simp
 |c :: css,i+1,h=>by
  have hc:=h c (List.mem_cons_self ..)
  rw [List.take_succ_cons,List.flatten_cons,List.flatten_cons,flat_take css i (fun x hx=>h x (List.mem_cons_of_mem _ hx)),List.take_append,List.take_of_length_le (l:=c) (by rw [hc,Nat.succ_mul];omega),show (i+1) * size - c.length=i * size by rw [hc,Nat.succ_mul];omega]
theorem flat_drop {size:Nat} : ∀ (css:List (List Value)) (i:Nat),(∀ x ∈ css,x.length=size)→(css.drop i).flatten=css.flatten.drop (i * size)
 | [],i,_=>by simp
 |c :: css,0,_=>by simp
 |c :: css,i+1,h=>by
  have hc:=h c (List.mem_cons_self ..)
  rw [List.drop_succ_cons,List.flatten_cons,flat_drop css i (fun x hx=>h x (List.mem_cons_of_mem _ hx)),List.drop_append,List.drop_of_length_le (l:=c) (by rw [hc,Nat.succ_mul];omega),List.nil_append,show (i+1) * size - c.length=i * size by rw [hc,Nat.succ_mul];omega]
theorem each_any_or {w w' : World} {S S' : Nat→Prop} : ∀ {css:List (List Value)} {xs:List Or},Each rdOrder 12 w S css xs→Each rdOrder 12 w' S' css xs
 | [],[],_=>trivial
 | [],_ :: _,h=>h.elim
 | _ :: _,[],h=>h.elim
 | _ :: _,_ :: _,h=>⟨h.1,h.2.1,each_any_or h.2.2⟩
def insO (L:List Or) (i:Nat) (o:Or):List Or:=L.take i++o :: L.drop i
theorem insO_len {L:List Or} {i:Nat} {o:Or} (h:i≤L.length):(insO L i o).length=L.length+1:=by
 unfold insO
 rw [List.length_append,List.length_take,List.length_cons,List.length_drop];omega
theorem oc_cells (o:Or):∀ u ∈ (order.oc o).toList,u.oneCell'=true:=fun u hu=>by
 simp [order.oc] at hu
 rcases hu with rfl | rfl | rfl | rfl | rfl | rfl | rfl | rfl | rfl | rfl | rfl | rfl<;>rfl
theorem g_oins {w0:World} {A:Option Addr} {c i vb:Nat} {L:List Or} {o:Or} {x:Int} (hx:x=(i:Int)) (hi:i≤L.length) (hL:L.length≤1000) (ho:o.fine) :
  GivesD Try.prog w0 [ownF rdOrder 12 TO A L.length c L,cellsF vb (order.oc o) TO] 67 #[.slice A L.length c,.int .i64 x,.slice (some ⟨vb,0,none⟩) 1 1] (Option Addr × Nat) (fun y=>.slice y.1 (insO L i o).length y.2) (fun y=>[ownF rdOrder 12 TO y.1 (insO L i o).length y.2 (insO L i o)]):=by
 subst hx
 intro w hw ha hs hp hy
 have hrow:=ha.1
 have hblk:w.heap[vb]?=some (.cells (order.oc o) TO (0,0)):=ha.2.1
 obtain ⟨css,h1,h2,h3⟩:=hrow
 have hyo:∀ k,(Value.slice A L.length c).ownBlock=some k→w0.heap.size≤k∧k < w.heap.size:=fun k hk=>hy _ (List.mem_cons_self ..) k hk
 have hA:∀ k,A=some ⟨k,0,none⟩→(Value.slice A L.length c).ownBlock=some k:=fun k e=>by subst e;rfl
 have hvA:A≠some ⟨vb,0,none⟩:=fun e=>by
  rw [List.pairwise_cons] at hp
  exact hp.1 _ (List.mem_singleton.2 rfl) vb (hA vb e) rfl
 have hlen:∀ x ∈ css,x.length=12:=h2.lens
 refine (oins (base:=0) (vs:=(order.oc o).toList) h1 (h2.leaf leaf_order) (Nat.zero_le _) hL hi (by rw [Array.toArray_toList];exact hblk) hvA rfl (oc_cells o)).mono ?_
 rintro e w' ⟨A',c',rfl,hown,hbel,hsame,hnew⟩
 have hfl:(css.flatten.take (i * 12)++(order.oc o).toList++css.flatten.drop (i * 12))=(css.take i++[(order.oc o).toList]++css.drop i).flatten:=by
  rw [List.flatten_append,List.flatten_append,flat_take css i hlen,flat_drop css i hlen];simp
 rw [hfl] at hown
 rw [← insO_len (o:=o) hi] at hown ⊢
 have heach:Each rdOrder 12 w' (fun _=>False) (css.take i++[(order.oc o).toList]++css.drop i) (insO L i o):=by
  have e1:Each rdOrder 12 w' (fun _=>False) (css.take i) (L.take i):=each_any_or (each_take i h2)
  have e2:Each rdOrder 12 w' (fun _=>False) (css.drop i) (L.drop i):=each_any_or (each_drop i h2)
  have e3:Each rdOrder 12 w' (fun _=>False) [(order.oc o).toList] [o]:=⟨rfl,⟨rfl,ho⟩,trivial⟩
  have:=(e1.append e3).append e2
  unfold insO
  rw [List.append_assoc] at this ⊢
  simpa using this
 have hkey:∀ k,k < w.heap.size→(Value.slice A L.length c).ownBlock≠some k→w'.heap[k]?=w.heap[k]?:=fun k hk hne=>hsame k hk (fun e=>hne (hA k e))
 refine ⟨(A',c'),rfl,hw.trans ⟨hbel.os,hbel.tape,hbel.output,hbel.size,fun k hk=>hkey k (Nat.lt_of_lt_of_le hk hw.size) (fun e=>by have:=hyo k e;omega)⟩,fun k h4 h5 h6=>hkey k h5 (fun e=>h6 ⟨_,List.mem_cons_self ..,e⟩),?_⟩
 refine news_one ⟨_,hown,heach,rfl⟩ (ownF_stable keeps_order) (fun k hk=>?_)
 have hlt:=hown.lt k hk
 refine ⟨?_,hlt.2⟩
 have hA' : A'=some ⟨k,0,none⟩:=by
  rcases hown.2 with ⟨hv,_⟩ | ⟨g,cap,cur,hv,_⟩
  ·injection hv with hv _ _
   subst hv
   cases (show (none:Option Nat)=some k from hk)
  ·injection hv with hv _ _
   subst hv
   have hk2:some g=some k:=hk
   injection hk2 with hk2
   rw [hk2]
 rcases hnew k hA' with h | h
 ·exact .inl ⟨_,List.mem_cons_self ..,hA k h⟩
 ·exact .inr h
end Go.Proofs.Ytcpahggkioagkaa.venue
