/-
  zkv, zkw
-/
import Derived.Test.YtbbjlfbemibfcaaGreatMrr30
import Derived.Test.YtbbjlfbemibfcaaGreatMrr16
import Derived.Test.YtbbjlfbemibfcaaGreatMrr29
import Derived.Test.YtbbjlfbemibfcaaGreatMrr09
set_option linter.unusedVariables false
set_option linter.unusedSimpArgs false
section
namespace Go.Proofs.YtbbjlfbemibfcaaGreat.book
open Go.RowKit Go.Proofs.YtbbjlfbemibfcaaGreat
open Go.Proofs.YtbbjlfbemibfcaaGreat.order (Or open_ worth)
open Go.Proofs.YtbbjlfbemibfcaaGreat.cell (Ce Ex)
open Go.Proofs.YtbbjlfbemibfcaaGreat.rec (Rc)
set_option maxRecDepth 20000
open Go.Proofs.YtbbjlfbemibfcaaGreat.order (oz)
theorem qnl {w w' : World} {g:Nat} {cs:Array Value} (hw:Below w.heap.size w w') (hb:o7 w [] g 0 cs):o7 w' [] g 0 cs:=fun w2 h2 _=>hb w2 (hw.trans (h2.mono hw.size)) trivial
theorem Ux {w:World} {g:Nat} {cs:Array Value} {T:TypeId} (h:w.heap[g]?=some (.cells cs T (0,0))):o7 w [] g 0 cs:=fun w2 h2 _ i v hv=>by
 have hl:=(Array.getElem?_eq_some_iff.1 h).1
 rw [Nat.zero_add]
 exact (Dj ((h2.block g hl).trans h) i v hv).1
theorem Dc {s:St} {a b:Int} (hL:Lens s) (ht:There s a b):Bg s a b=((place s.y a b:Nat):Int)∧place s.y a b < s.cs.length:=by
 have h:=qim hL.1 ht
 have:=hL.2.1
 unfold place;omega
def vk (s:St) (o:Or):Ex × Int × Int:=if (cell.Ba (s.cs.getD (place s.y o.a o.y) cz)).2=0 then ((cell.Ba (s.cs.getD (place s.y o.a o.y) cz)).1,(limit.whole (acc s.y o.a.toNat s.cs)).1,(limit.whole (acc s.y o.a.toNat s.cs)).2) else (xz,0,(cell.Ba (s.cs.getD (place s.y o.a o.y) cz)).2)
theorem qin {s:St} {o:Or} (h:(cell.Ba (s.cs.getD (place s.y o.a o.y) cz)).2=0):vk s o=((cell.Ba (s.cs.getD (place s.y o.a o.y) cz)).1,(limit.whole (acc s.y o.a.toNat s.cs)).1,(limit.whole (acc s.y o.a.toNat s.cs)).2):=if_pos h
theorem qn9 {s:St} {o:Or} (h:¬ (cell.Ba (s.cs.getD (place s.y o.a o.y) cz)).2=0):vk s o=(xz,0,(cell.Ba (s.cs.getD (place s.y o.a o.y) cz)).2):=if_neg h
def Ar (r:Rc):Int:=if r.t=3 then r.q else 0
def Ji (c:Ce) (o p:Or) (q:Int):Ce × Int:=if (cell.go c o).2=0 then (if (cell.did (cell.go c o).1 o.d q).2=0 then cell.come (cell.did (cell.go c o).1 o.d q).1 p else cell.did (cell.go c o).1 o.d q) else cell.go c o
theorem q55 {c:Ce} {o p:Or} {q:Int} (h:¬ (cell.go c o).2=0):Ji c o p q=cell.go c o:=if_neg h
theorem q56 {c:Ce} {o p:Or} {q:Int} (h:(cell.go c o).2=0) (h2:¬ (cell.did (cell.go c o).1 o.d q).2=0):Ji c o p q=cell.did (cell.go c o).1 o.d q:=by unfold Ji;rw [if_pos h,if_neg h2]
theorem qp4 {c:Ce} {o p:Or} {q:Int} (h:(cell.go c o).2=0) (h2:(cell.did (cell.go c o).1 o.d q).2=0):Ji c o p q=cell.come (cell.did (cell.go c o).1 o.d q).1 p:=by unfold Ji;rw [if_pos h,if_pos h2]
theorem Uy (v:Sv) (s:St) (o:Or) (g:Nat)  (w:World) (hb:o7 w [] g 0 (bg v s)):Calls Tryz.prog 101 #[.pointer (some ⟨g,0,none⟩),.agg (order.oc o)] w fun e w'=>e = .returned (.int .i64 (Bg s o.a o.y))∧Below w.heap.size w w' :=
 qse (fn:=Tryz.f101) (c0:=(bg v s)) (r:=.int .i64 (Bg s o.a o.y)) (t:=.o [] (.c (.int .i64 (Bg s o.a o.y)) .z)) (X :=
∀ g1:Nat,iq Tryz.prog w [] 68 #[.agg (bg v s),.int .i64 o.a,.int .i64 o.y] (.int .i64 (Bg s o.a o.y))∧(.int .i64 (Bg s o.a o.y):Value) = .int .i64 (Bg s o.a o.y)) Tryz.func101 rfl hb (by kernel_rfl)
 (fun g1=>⟨gives (qkp _ _ _ _),rfl⟩)
theorem qz4 (v:Sv) (s:St) (o:Or) (g:Nat)  (w:World) (hb:o7 w [] g 0 (bg v s)) (h:lu w (Lt w.heap.size) v s) (hL:Lens s) (ht:There s o.a o.y):Calls Tryz.prog 124 #[.pointer (some ⟨g,0,none⟩),.agg (order.oc o)] w fun e w'=>e = .returned (.tuple #[.agg (cell.xc (vk s o).1),.int .i64 (vk s o).2.1,.int .i64 (vk s o).2.2])∧Below w.heap.size w w' :=
 have hlen:=h.len
 have hpl:=Dc hL ht
 qse (fn:=Tryz.f124) (c0:=(bg v s)) (r:=.tuple #[.agg (cell.xc (vk s o).1),.int .i64 (vk s o).2.1,.int .i64 (vk s o).2.2]) (t:=let k3:=s.cs.getD (place s.y o.a o.y) cz;let k0:Value:=.tuple #[.agg (cell.xc ((cell.Ba k3).1)),.int .i64 ((cell.Ba k3).2)];let k4:=limit.whole (acc s.y o.a.toNat s.cs);let k1:Value:=.tuple #[.int .i64 (k4.1),.int .i64 (k4.2)];let k2:Value:=.slice (cutAt v.A2 v.c2 (o.a.toNat * s.y.toNat) 4) s.y.toNat (v.c2 - o.a.toNat * s.y.toNat);let k5:=ay v.A2+(place s.y o.a o.y) * 4; .o [] (.two (.c (.int .i64 (Bg s o.a o.y)) (.p (au v.A2) k5 (cell.cc k3) (.two (.c k0 (.s .z (.o [] (.c k2 (.c k1 .z))))) (.c k0 (.s .z (.o [] (.c k2 (.c k1 .z)))))))) (.c (.int .i64 (Bg s o.a o.y)) (.p (au v.A2) k5 (cell.cc k3) (.c k0 (.s .z (.o [] (.c k2 (.c k1 .z))))))))) (X :=
 let k10:=place s.y o.a o.y;let k0:=cell.Ba (s.cs.getD k10 cz);let k1:Array Value:=#[.agg (cell.xc (vk s o).1),.int .i64 (vk s o).2.1,.int .i64 (vk s o).2.2];let k2:=limit.whole (acc s.y o.a.toNat s.cs);let k3:=cutAt v.A2 v.c2 (o.a.toNat * s.y.toNat) 4;let k4:=(.tuple #[.agg #[.int .i64 0,.int .i64 0,.int .i64 0],.int .i64 0,.int .i64 (k0.2)]:Value);let k5:=cell.cc (s.cs.getD k10 cz);let k6:=(.tuple #[.agg (cell.xc (k0.1)),.int .i64 (k2.1),.int .i64 (k2.2)]:Value);let k7:=v.c2 - o.a.toNat * s.y.toNat;let k8 := !decide ((k0.2)=0);let k9:Value:=.tuple #[.agg (cell.xc (k0.1)),.int .i64 (k0.2)];let k11:Value:=.tuple #[.int .i64 (k2.1),.int .i64 (k2.2)];let k14:Value:=.int .i64 (Bg s o.a o.y);let k12:=Instr.indexAt 23 (.slice v.A2 s.cs.length v.c2) k14;let k13:Value:=.pointer (some ⟨au v.A2,ay v.A2+k10 * 4,none⟩);let k15:Array Value:=#[.agg (bg v s),.int .i64 o.a];let k16:Array Value:=#[.pointer (some ⟨g,0,none⟩),.agg (order.oc o)];let k17:Value:=.slice k3 s.y.toNat k7;let k18:Array Value:=#[.slice k3 s.y.toNat k7]; ∀ g1:Nat,∀ g2:Nat,(iq Tryz.prog w [] 101 k16 k14∧jd Tryz.prog w [] k12 k13∧o7 w [] (au v.A2) (ay v.A2+k10 * 4) k5∧(iq Tryz.prog w [] 93 #[.agg k5] k9∧∀ g4:Nat,(k8=true→k4 = .tuple k1)∧(k8=false→iq Tryz.prog w [] 72 k15 k17∧iq Tryz.prog w [] 71 k18 k11∧k6 = .tuple k1))∧(∀ g4:Nat,iq Tryz.prog w [] 93 #[.agg k5] k9∧(k8=true→k4 = .tuple k1)∧(k8=false→iq Tryz.prog w [] 72 k15 k17∧iq Tryz.prog w [] 71 k18 k11∧k6 = .tuple k1)))∧(∀ g3:Nat,iq Tryz.prog w [] 101 k16 k14∧jd Tryz.prog w [] k12 k13∧o7 w [] (au v.A2) (ay v.A2+k10 * 4) k5∧iq Tryz.prog w [] 93 #[.agg k5] k9∧(k8=true→k4 = .tuple k1)∧(k8=false→iq Tryz.prog w [] 72 k15 k17∧iq Tryz.prog w [] 71 k18 k11∧k6 = .tuple k1))) Tryz.func124 rfl hb (by kernel_rfl)
 (fun g1=>fun g2=>⟨⟨(fun w2 hw _=>Uy v s o g w2 (qnl hw hb)),⟨(Gp hpl.1 (yw Tryz.underlying23 yg qa2 (Nat.le_refl _) h.c rfl hpl.2)),(qa0 qa2 (Nat.le_refl _) h.c (ou hpl.2)),⟨⟨Y0 (Jg h.c _ (l7 hpl.2)),fun g4=>⟨fun h1=>have h1:¬ ((cell.Ba (s.cs.getD (place s.y o.a o.y) cz)).2)=0:=(by simpa using h1)
(by rw [qn9 h1]<;>rfl),
 fun h1=>have h1:((cell.Ba (s.cs.getD (place s.y o.a o.y) cz)).2)=0:=(by simpa using h1)
⟨(fun w hw _=>qpb v s o.a w (h.later hw) hL ⟨ht.1,ht.2.1⟩),⟨qm3 (fun w hw _=>qg2 (h.later hw).c h.nc.1) (qgi (Us hL ⟨ht.1,ht.2.1⟩).2.2.2.2.1) (by have:=(Us hL ⟨ht.1,ht.2.1⟩).2.2.2.2.2.2.1;omega),(by rw [qin h1]<;>rfl)⟩⟩⟩⟩,
 fun g4=>⟨Y0 (Jg h.c _ (l7 hpl.2)),⟨fun h2=>have h2:¬ ((cell.Ba (s.cs.getD (place s.y o.a o.y) cz)).2)=0:=(by simpa using h2)
(by rw [qn9 h2]<;>rfl),
 fun h2=>have h2:((cell.Ba (s.cs.getD (place s.y o.a o.y) cz)).2)=0:=(by simpa using h2)
⟨(fun w hw _=>qpb v s o.a w (h.later hw) hL ⟨ht.1,ht.2.1⟩),⟨qm3 (fun w hw _=>qg2 (h.later hw).c h.nc.1) (qgi (Us hL ⟨ht.1,ht.2.1⟩).2.2.2.2.1) (by have:=(Us hL ⟨ht.1,ht.2.1⟩).2.2.2.2.2.2.1;omega),(by rw [qin h2]<;>rfl)⟩⟩⟩⟩⟩⟩⟩,
 fun g3=>⟨(fun w2 hw _=>Uy v s o g w2 (qnl hw hb)),⟨(Gp hpl.1 (yw Tryz.underlying23 yg qa2 (Nat.le_refl _) h.c rfl hpl.2)),(qa0 qa2 (Nat.le_refl _) h.c (ou hpl.2)),⟨Y0 (Jg h.c _ (l7 hpl.2)),⟨fun h3=>have h3:¬ ((cell.Ba (s.cs.getD (place s.y o.a o.y) cz)).2)=0:=(by simpa using h3)
(by rw [qn9 h3]<;>rfl),
 fun h3=>have h3:((cell.Ba (s.cs.getD (place s.y o.a o.y) cz)).2)=0:=(by simpa using h3)
⟨(fun w hw _=>qpb v s o.a w (h.later hw) hL ⟨ht.1,ht.2.1⟩),⟨qm3 (fun w hw _=>qg2 (h.later hw).c h.nc.1) (qgi (Us hL ⟨ht.1,ht.2.1⟩).2.2.2.2.1) (by have:=(Us hL ⟨ht.1,ht.2.1⟩).2.2.2.2.2.2.1;omega),(by rw [qin h3]<;>rfl)⟩⟩⟩⟩⟩⟩⟩)
theorem q98 (r:Rc)  (w:World):Calls Tryz.prog 109 #[.agg (rec.rc r)] w fun e w'=>e = .returned (.int .i64 (Ar r))∧Below w.heap.size w w' :=
 uw (fn:=Tryz.f109) (r:=.int .i64 (Ar r)) (t:=.s .z .z) (X :=
∀ g0:Nat,((decide (r.t=3))=true→(.int .i64 r.q:Value) = .int .i64 (Ar r))∧((decide (r.t=3))=false→(.int .i64 0:Value) = .int .i64 (Ar r))) Tryz.func109 (by kernel_rfl)
 (fun g0=>⟨fun h1=>have h1:r.t=3:=(by simpa using h1)
(by unfold Ar;rw [if_pos h1]),
 fun h1=>have h1:¬ r.t=3:=(by simpa using h1)
(by unfold Ar;rw [if_neg h1])⟩)
theorem qme (c:Ce) (o p:Or) (q:Int) (hc:c.fine) (ho:o.fine) (hp:p.fine) (hq:frame.jh q) (w:World):Calls Tryz.prog 105 #[.agg (cell.cc c),.agg (order.oc o),.agg (order.oc p),.int .i64 q] w fun e w'=>e = .returned (.tuple #[.agg (cell.cc (Ji c o p q).1),.int .i64 (Ji c o p q).2])∧Below w.heap.size w w' :=
 uw (fn:=Tryz.f105) (r:=.tuple #[.agg (cell.cc (Ji c o p q).1),.int .i64 (Ji c o p q).2]) (t:=let k0:=cell.did ((cell.go c o).1) o.d q; .c (.tuple #[.agg (cell.cc ((cell.go c o).1)),.int .i64 ((cell.go c o).2)]) (.s .z (.c (.tuple #[.agg (cell.cc (k0.1)),.int .i64 (k0.2)]) (.s .z (.c (.tuple #[.agg (cell.cc ((cell.come (k0.1) p).1)),.int .i64 ((cell.come (k0.1) p).2)]) .z))))) (X :=
 let k0:=cell.did ((cell.go c o).1) o.d q;let k1:Array Value:=#[.agg (cell.cc (Ji c o p q).1),.int .i64 (Ji c o p q).2];let k2:Array Value:=#[.agg (cell.cc ((cell.come (k0.1) p).1)),.int .i64 ((cell.come (k0.1) p).2)];let k3:=cell.cc ((cell.go c o).1);let k4:=(cell.go c o).2;let k5:=cell.cc (k0.1); ∀ g0:Nat,∀ g1:Nat,∀ g2:Nat,∀ g3:Nat,iq Tryz.prog w [] 127 #[.agg (cell.cc c),.agg (order.oc o)] (.tuple #[.agg k3,.int .i64 k4])∧((!decide (k4=0))=true→(.tuple #[.agg k3,.int .i64 k4]:Value) = .tuple k1)∧((!decide (k4=0))=false→iq Tryz.prog w [] 128 #[.agg k3,.int .i64 o.d,.int .i64 q] (.tuple #[.agg k5,.int .i64 (k0.2)])∧((!decide ((k0.2)=0))=true→(.tuple #[.agg k5,.int .i64 (k0.2)]:Value) = .tuple k1)∧((!decide ((k0.2)=0))=false→iq Tryz.prog w [] 70 #[.agg k5,.agg (order.oc p)] (.tuple k2)∧(.tuple k2:Value) = .tuple k1))) Tryz.func105 (by kernel_rfl)
 (fun g0=>fun g1=>fun g2=>fun g3=>⟨l_go hc ho,⟨fun h1=>have h1:¬ ((cell.go c o).2)=0:=(by simpa using h1)
(by rw [q55 h1]<;>rfl),
 fun h1=>have h1:((cell.go c o).2)=0:=(by simpa using h1)
⟨q93 (cell.qkm (e:=(cell.go c o).2) hc rfl) ho.2.2.2.1 hq,⟨fun h2=>have h2:¬ ((cell.did ((cell.go c o).1) o.d q).2)=0:=(by simpa using h2)
(by rw [q56 h1 h2]<;>rfl),
 fun h2=>have h2:((cell.did ((cell.go c o).1) o.d q).2)=0:=(by simpa using h2)
⟨Vw (cell.qny (e:=(cell.did (cell.go c o).1 o.d q).2) (cell.qkm (e:=(cell.go c o).2) hc rfl) rfl) hp,(by rw [qp4 h1 h2]<;>rfl)⟩⟩⟩⟩⟩)
end Go.Proofs.YtbbjlfbemibfcaaGreat.book
end
section
namespace Go.Proofs.YtbbjlfbemibfcaaGreat.book
open Go.RowKit Go.Proofs.YtbbjlfbemibfcaaGreat
open Go.Proofs.YtbbjlfbemibfcaaGreat.order (Or open_ worth)
open Go.Proofs.YtbbjlfbemibfcaaGreat.cell (Ce Ex)
open Go.Proofs.YtbbjlfbemibfcaaGreat.rec (Rc)
set_option maxRecDepth 20000
theorem qja {P:Program} {w0:World} {D:List Fact} {src dst:TypeId} {k1 k2:IntKind} {n:Int} (hs:(P.underlying src).isSome=true) (hd:P.underlying dst=some (.int k2)) (h:k2.wrap n=n):jd P w0 D (convert src dst (.int k1 n)) (.int k2 n):=fun w _ _=>by
 have hk:P.intKind dst=k2:=by simp [Program.intKind,hd]
 rw [run_convert_int w src dst k1 n hs (by rw [hk];exact hd),hk,h]
def RL {α:Type} (x z:α) (k j:Nat):List α:=List.replicate j x++List.replicate (k - j) z
theorem qtd {α:Type} {x z:α} {k:Nat} (h:1≤k):(List.replicate k z).take 0++[x].take 1++(List.replicate k z).drop (0+1)=RL x z k 1:=by
 simp [RL,List.drop_replicate]
theorem qz5 {α:Type} {x z:α} {k j:Nat} (h:j≤k):((RL x z k j).take j).length=j:=by
 simp [RL]
theorem qvp {α:Type} {x z:α} {k j:Nat} (h:j≤k):(RL x z k j).take j++((RL x z k j).take j).take (min j (k - j))++(RL x z k j).drop (j+min j (k - j))=RL x z k (j+min j (k - j)):=by
 have h1:(RL x z k j).take j=List.replicate j x:=by simp [RL]
 have h2:(RL x z k j).drop (j+min j (k - j))=List.replicate (k - (j+min j (k - j))) z:=by
  unfold RL
  rw [List.drop_append,List.drop_replicate,List.drop_replicate,List.length_replicate,show j - (j+min j (k - j))=0 by omega,show k - j - (j+min j (k - j) - j)=k - (j+min j (k - j)) by omega]
  simp
 rw [h1,h2,List.take_replicate,List.replicate_append_replicate]
 unfold RL
 rw [show min (min j (k - j)) j=min j (k - j) by omega]
theorem qz6 {α:Type} {x z:α} {k j:Nat} (h:k≤j) (h2:j≤k):RL x z k j=List.replicate k x:=by
 obtain rfl:j=k:=by omega
 simp [RL]
theorem qvq {a b:Nat} (h:0 < a) (h2:0 < b):0 < min a b:=by omega
theorem qte {A:Option Addr} {k y size g:Nat} (h:¬ k=y) (e:A=some ⟨g,0,none⟩):cutAt A k y size=some ⟨g,y * size,none⟩:=by
 subst e;simp [cutAt,h,Addr.add];exact fun h=>h.symm
theorem qgo {α:Type} {R:Rd α} {size:Nat} {w:World} {S:Nat→Prop} {A:Option Addr} {xs:List α} (h:ql R size w S A xs) (m:Nat):ql R size w S A (xs.take m):=fun h0=>by
 rw [List.length_take] at h0
 obtain ⟨b,off,e,hb,hj⟩:=h (by omega)
 refine ⟨b,off,e,hb,fun j x hx=>hj j x ?_⟩
 rw [List.getElem?_take] at hx
 split at hx
 ·exact hx
 ·cases hx
theorem q57:xz.fine:=by unfold xz Ex.fine frame.jh;simp
theorem qi3 {P:Program} {t e:TypeId} (ht:P.underlying t=some (.slice e)) {size bytes:Nat} {z:Value} (hinfo:(P.info? e).map (fun i=>(i.zero,i.size,i.bytes))=some (some z,size,bytes)) {A:Option Addr} {n c k:Nat} (hk:k≤n) (w:World) :
  (Instr.sliceAt t (.slice A n c) (some (.int .i64 (k:Int))) none none).run P w = .ok (.slice (cutAt A c k size) (n - k) (c - k)) w:=by
 have hs:(Instr.sliceAt t (.slice A n c) (some (.int .i64 (k:Int))) none none).run P w=(Instr.slice t (.slice A n c) (some (.int .i64 (k:Int))) none none).run P w:=by
  unfold Instr.sliceAt
  rw [Sem.run_bind,run_underlying ht w]
  rfl
 rw [hs,qr1 t e size bytes z ht hinfo A n c k hk w]
theorem qhf {P:Program} {t e:TypeId} (ht:P.underlying t=some (.slice e)) {size bytes:Nat} {z:Value} (hinfo:(P.info? e).map (fun i=>(i.zero,i.size,i.bytes))=some (some z,size,bytes)) {A:Option Addr} {n c k:Nat} (hk:k≤c) (w:World) :
  (Instr.sliceAt t (.slice A n c) none (some (.int .i64 (k:Int))) none).run P w = .ok (.slice A k c) w:=by
 have hs:(Instr.sliceAt t (.slice A n c) none (some (.int .i64 (k:Int))) none).run P w=(Instr.slice t (.slice A n c) none (some (.int .i64 (k:Int))) none).run P w:=by
  unfold Instr.sliceAt
  rw [Sem.run_bind,run_underlying ht w]
  rfl
 rw [hs,qr3 t e size bytes z ht hinfo A n c k _ rfl hk w]
theorem gq {w0:World} {D fs gs:List Fact} (h:fs=gs) (hs:iw w0 D fs):iw w0 D gs:=h▸hs
theorem xw (w:World) (k:Int) (h:Pj Tryz.prog w Tryz.f111 #[.int .u64 1,.int .u64 k] (fun v _=>v = .tuple #[.int .u64 0,.int .u64 k]) (.k (.k (.k (.k (.k (.k (.k (.k (.k (.k (.k (.k (.k (.k (.k (.k (.k .z)))))))))))))))))=((.tuple #[.int .u64 0,.int .u64 k]:Value) = .tuple #[.int .u64 0,.int .u64 k])):Calls Tryz.prog 111 #[.int .u64 1,.int .u64 k] w fun e w'=>e = .returned (.tuple #[.int .u64 0,.int .u64 k])∧Below w.heap.size w w' :=
 uw (fn:=Tryz.f111) Tryz.func111 h rfl
theorem q99 (k:Nat) (hk:k≤64) (w:World):Calls Tryz.prog 111 #[.int .u64 1,.int .u64 (k:Int)] w fun e w'=>e = .returned (.tuple #[.int .u64 0,.int .u64 (k:Int)])∧Below w.heap.size w w':=by
 rcases (show k=0∨k=1∨k=2∨k=3∨k=4∨k=5∨k=6∨k=7∨k=8∨k=9∨k=10∨k=11∨k=12∨k=13∨k=14∨k=15∨k=16∨k=17∨k=18∨k=19∨k=20∨k=21∨k=22∨k=23∨k=24∨k=25∨k=26∨k=27∨k=28∨k=29∨k=30∨k=31∨k=32∨k=33∨k=34∨k=35∨k=36∨k=37∨k=38∨k=39∨k=40∨k=41∨k=42∨k=43∨k=44∨k=45∨k=46∨k=47∨k=48∨k=49∨k=50∨k=51∨k=52∨k=53∨k=54∨k=55∨k=56∨k=57∨k=58∨k=59∨k=60∨k=61∨k=62∨k=63∨k=64 by omega) with rfl | rfl | rfl | rfl | rfl | rfl | rfl | rfl | rfl | rfl | rfl | rfl | rfl | rfl | rfl | rfl | rfl | rfl | rfl | rfl | rfl | rfl | rfl | rfl | rfl | rfl | rfl | rfl | rfl | rfl | rfl | rfl | rfl | rfl | rfl | rfl | rfl | rfl | rfl | rfl | rfl | rfl | rfl | rfl | rfl | rfl | rfl | rfl | rfl | rfl | rfl | rfl | rfl | rfl | rfl | rfl | rfl | rfl | rfl | rfl | rfl | rfl | rfl | rfl | rfl
 ·exact xw w 0 (by kernel_rfl)
 ·exact xw w 1 (by kernel_rfl)
 ·exact xw w 2 (by kernel_rfl)
 ·exact xw w 3 (by kernel_rfl)
 ·exact xw w 4 (by kernel_rfl)
 ·exact xw w 5 (by kernel_rfl)
 ·exact xw w 6 (by kernel_rfl)
 ·exact xw w 7 (by kernel_rfl)
 ·exact xw w 8 (by kernel_rfl)
 ·exact xw w 9 (by kernel_rfl)
 ·exact xw w 10 (by kernel_rfl)
 ·exact xw w 11 (by kernel_rfl)
 ·exact xw w 12 (by kernel_rfl)
 ·exact xw w 13 (by kernel_rfl)
 ·exact xw w 14 (by kernel_rfl)
 ·exact xw w 15 (by kernel_rfl)
 ·exact xw w 16 (by kernel_rfl)
 ·exact xw w 17 (by kernel_rfl)
 ·exact xw w 18 (by kernel_rfl)
 ·exact xw w 19 (by kernel_rfl)
 ·exact xw w 20 (by kernel_rfl)
 ·exact xw w 21 (by kernel_rfl)
 ·exact xw w 22 (by kernel_rfl)
 ·exact xw w 23 (by kernel_rfl)
 ·exact xw w 24 (by kernel_rfl)
 ·exact xw w 25 (by kernel_rfl)
 ·exact xw w 26 (by kernel_rfl)
 ·exact xw w 27 (by kernel_rfl)
 ·exact xw w 28 (by kernel_rfl)
 ·exact xw w 29 (by kernel_rfl)
 ·exact xw w 30 (by kernel_rfl)
 ·exact xw w 31 (by kernel_rfl)
 ·exact xw w 32 (by kernel_rfl)
 ·exact xw w 33 (by kernel_rfl)
 ·exact xw w 34 (by kernel_rfl)
 ·exact xw w 35 (by kernel_rfl)
 ·exact xw w 36 (by kernel_rfl)
 ·exact xw w 37 (by kernel_rfl)
 ·exact xw w 38 (by kernel_rfl)
 ·exact xw w 39 (by kernel_rfl)
 ·exact xw w 40 (by kernel_rfl)
 ·exact xw w 41 (by kernel_rfl)
 ·exact xw w 42 (by kernel_rfl)
 ·exact xw w 43 (by kernel_rfl)
 ·exact xw w 44 (by kernel_rfl)
 ·exact xw w 45 (by kernel_rfl)
 ·exact xw w 46 (by kernel_rfl)
 ·exact xw w 47 (by kernel_rfl)
 ·exact xw w 48 (by kernel_rfl)
 ·exact xw w 49 (by kernel_rfl)
 ·exact xw w 50 (by kernel_rfl)
 ·exact xw w 51 (by kernel_rfl)
 ·exact xw w 52 (by kernel_rfl)
 ·exact xw w 53 (by kernel_rfl)
 ·exact xw w 54 (by kernel_rfl)
 ·exact xw w 55 (by kernel_rfl)
 ·exact xw w 56 (by kernel_rfl)
 ·exact xw w 57 (by kernel_rfl)
 ·exact xw w 58 (by kernel_rfl)
 ·exact xw w 59 (by kernel_rfl)
 ·exact xw w 60 (by kernel_rfl)
 ·exact xw w 61 (by kernel_rfl)
 ·exact xw w 62 (by kernel_rfl)
 ·exact xw w 63 (by kernel_rfl)
 ·exact xw w 64 (by kernel_rfl)
theorem zdx (k:Nat) (hk:k≤64)  (w:World):Calls Tryz.prog 83 #[.int .u64 1,.int .u64 (k:Int)] w fun e w'=>e = .returned (.tuple #[.int .u64 0,.int .u64 (k:Int)])∧Below w.heap.size w w' :=
 uw (fn:=Tryz.f83) (r:=.tuple #[.int .u64 0,.int .u64 (k:Int)]) (t:=.c (.tuple #[.int .u64 0,.int .u64 (k:Int)]) .z) (X :=
 let k0:Array Value:=#[.int .u64 0,.int .u64 (k:Int)];iq Tryz.prog w [] 111 #[.int .u64 1,.int .u64 (k:Int)] (.tuple k0)∧(.tuple k0:Value) = .tuple k0) Tryz.func83 (by kernel_rfl)
 (⟨gives (q99 k hk),rfl⟩)
theorem zkz (A:Option Addr) (x0:Ex) (k:Nat) (hk1:1≤k) (hk:k≤64) (w:World) (hx:ql je 3 w (Lt w.heap.size) A [x0]):Calls Tryz.prog 48 #[.slice A 1 1,.int .i64 (k:Int)] w fun e w' => ∃ x:Nat,e = .returned (.slice (some ⟨x,0,none⟩) k k)∧Below w.heap.size w w'∧xq (fun _=>False) w.heap.size ([ah je 3 51 (some ⟨x,0,none⟩) k k (List.replicate k x0)]) w' :=
 Le (fn:=Tryz.f48) (r:=fun (x:Nat)=>.slice (some ⟨x,0,none⟩) k k) (fs:=fun (x:Nat)=>[ah je 3 51 (some ⟨x,0,none⟩) k k (List.replicate k x0)]) (t:=.m false (.x (.int .u64 1) (.x (.int .u64 (k:Int)) (.c (.tuple #[.int .u64 0,.int .u64 (k:Int)]) (.k (.k (.m false (.x (.int .i64 (k:Int)) (.w (Nat) none (fun x=>.slice (some ⟨x,0,none⟩) k k) (fun x=>[oX (some ⟨x,0,none⟩) k k (List.replicate k xz)]) (fun x1=>let k0:Option Addr:=some ⟨x1,0,none⟩; .w (Unit) (some 0) (fun x=>.int .i64 1) (fun x=>[oX k0 k k (RL x0 xz k 1)]) (fun x2=>.l (Nat) (fun x=>[(7,.slice k0 k k,none),(8,.int .i64 (x:Int),none)]) (fun x=>[]) [] [] (fun x=>[oX k0 k k (RL x0 xz k x)]) (fun x=>1≤x∧x≤k) (fun x=>k - x) (1:Nat) (fun y3=>.s (.ow [] [] (.x (.slice (cutAt k0 k y3 3) (k - y3) (k - y3)) (.x (.slice k0 y3 k) (.w (Unit) (some 0) (fun x=>.int .i64 ((min y3 (k - y3):Nat):Int)) (fun x=>[oX k0 k k (RL x0 xz k (y3+min y3 (k - y3)))]) (fun x7=>.e (.int .i64 ((y3+min y3 (k - y3):Nat):Int)) .z))))) .z)))))))))))) (X :=
 let k0:Value:=.int .i64 (k:Int);let k1:=List.replicate k xz;let k2:=RL x0 xz k 1;let k3:=([]:List (Option jv));(decide ((k:Int) < 0))=false∧jd Tryz.prog w [] (convert 3 115 (.int .i64 1)) (.int .u64 1)∧jd Tryz.prog w [] (convert 3 115 k0) (.int .u64 (k:Int))∧iq Tryz.prog w [] 83 #[.int .u64 1,.int .u64 (k:Int)] (.tuple #[.int .u64 0,.int .u64 (k:Int)])∧(decide ((k:Int) > 9223372036854775807))=false∧jd Tryz.prog w [] (convert 115 3 (.int .u64 (k:Int))) k0∧jw Tryz.prog w [] (Instr.makeSlice 24 k0 k0) (fun _=>False) (Nat) (fun x=>.slice (some ⟨x,0,none⟩) k k) (fun x=>[oX (some ⟨x,0,none⟩) k k k1])∧∀ x1:Nat,let k4:Option Addr:=some ⟨x1,0,none⟩;jw Tryz.prog w [oX k4 k k k1] (Builtin.copy_ #[24,24] 3 #[.slice k4 k k,.slice A 1 1]) ((oX k4 k k k1).S) (Unit) (fun x=>.int .i64 1) (fun x=>[oX k4 k k k2])∧∀ x2:Unit,xg w [oX k4 k k k2] []∧(1≤(1:Nat)∧(1:Nat)≤k)∧(([.slice k4 k k,.int .i64 1]:List Value)=[.slice k4 k k,.int .i64 ((1:Nat):Int)]∧k3=[]∧iw w [oX k4 k k k2] [oX k4 k k (RL x0 xz k (1:Nat))])∧true=true∧∀ (y3:Nat),let k5:List Fact:=[oX k4 k k (RL x0 xz k (y3+min y3 (k - y3)))];let k6:=RL x0 xz k y3;let k7:=((y3+min y3 (k - y3):Nat):Int);let k8:=decide ((y3:Int) < (k:Int));let k9:=((min y3 (k - y3):Nat):Int);(1≤y3∧y3≤k)→∀ τ5:Nat→Value,(k8=true→qp w [oX k4 k k k6] []∧jd Tryz.prog w [] (Instr.sliceAt 24 (.slice k4 k k) (some (.int .i64 (y3:Int))) none none) (.slice (cutAt k4 k y3 3) (k - y3) (k - y3))∧jd Tryz.prog w [] (Instr.sliceAt 24 (.slice k4 k k) none (some (.int .i64 (y3:Int))) none) (.slice k4 y3 k)∧(∀ x:Unit,qp w k5 [])∧jw Tryz.prog w [oX k4 k k k6] (Builtin.copy_ #[24,24] 3 #[.slice (cutAt k4 k y3 3) (k - y3) (k - y3),.slice k4 y3 k]) ((oX k4 k k k6).S) (Unit) (fun x=>.int .i64 k9) (fun x=>k5)∧∀ x7:Unit,(.int .i64 (IntKind.i64.wrap ((y3:Int)+k9)):Value) = .int .i64 k7∧∃ x' : Nat,(1≤x'∧x'≤k)∧(k - x' < k - y3)∧(([.slice k4 k k,.int .i64 k7]:List Value)=[.slice k4 k k,.int .i64 (x' : Int)]∧k3=[]∧iw w k5 [oX k4 k k (RL x0 xz k x')])∧true=true)∧(k8=false→∃ x:Nat,(.slice k4 k k:Value) = .slice (some ⟨x,0,none⟩) k k∧iw w [oX k4 k k k6] ([oX (some ⟨x,0,none⟩) k k (List.replicate k x0)]))) Tryz.func48 (by kernel_rfl)
 (⟨by simp only [dq];omega,⟨(qja rfl (by kernel_rfl) (by rw [IntKind.wrap_u64];omega)),⟨(qja rfl (by kernel_rfl) (by rw [IntKind.wrap_u64];omega)),⟨gives (zdx k hk),⟨by simp only [dq];omega,⟨(qja rfl (by kernel_rfl) (by rw [IntKind.wrap_i64];omega)),⟨(Oo Fq Tryz.underlying24 Es rfl (fun _=>⟨rfl,q57⟩) (by omega) (by unfold maxLen;omega)),fun x1=>⟨(qk3 (qtd hk1) (qjz (k:=1) Fq Oq (fun h=>h) Tryz.underlying24 Es (ji (j:=0) rfl) (by omega) (fun g e=>by cases e;rfl) rfl (fun w hw _=>⟨_,Zz Fq (Nat.le_refl _) hx hw⟩) rfl (by show min 1 (k - 0)=1;omega) (by decide))),fun x2=>⟨(fun w _ _=>zh),(by omega),⟨rfl,rfl,(jm (.cons_cons _ (List.nil_sublist _)))⟩,rfl,fun y3 I4 τ5=>⟨fun h6=>have h6:(y3:Int) < (k:Int):=(by simpa using h6)
⟨fun w _ ha=>trivial,⟨(fun w _ _=>qi3 Tryz.underlying24 Es (by omega) w),⟨(fun w _ _=>qhf Tryz.underlying24 Es (by omega) w),⟨fun x w _ ha=>trivial,(qk3 (qvp (by omega)) (qjz Fq Oq (fun h=>h) Tryz.underlying24 Es (ji (j:=0) rfl) (by omega) (fun g e=>qte (by omega) e) rfl (fun w _ ha=>⟨_,qgo ((ji (j:=0) rfl w ha).reads Fq (by decide)) y3⟩) (qz5 (by omega)) rfl (qvq (by omega) (by omega)))),fun x7=>⟨lg (by omega) (by omega) (by omega),⟨((y3+min y3 (k - y3)):Nat),(by omega),(by omega),⟨rfl,rfl,(jm (.cons_cons _ (List.nil_sublist _)))⟩,rfl⟩⟩⟩⟩⟩⟩,
 fun h6=>have h6:¬ (y3:Int) < (k:Int):=(by simpa using h6)
⟨x1,rfl,gq (by rw [qz6 (show k≤y3 by omega) (by omega)]) (jm (List.Sublist.refl _))⟩⟩⟩⟩⟩⟩⟩⟩⟩⟩⟩)
theorem zk0 (A:Option Addr) (x0:Int) (k:Nat) (hk1:1≤k) (hk:k≤64) (w:World) (hx:ql (bf .i64) 1 w (Lt w.heap.size) A [x0]):Calls Tryz.prog 49 #[.slice A 1 1,.int .i64 (k:Int)] w fun e w' => ∃ x:Nat,e = .returned (.slice (some ⟨x,0,none⟩) k k)∧Below w.heap.size w w'∧xq (fun _=>False) w.heap.size ([ah (bf .i64) 1 2 (some ⟨x,0,none⟩) k k (List.replicate k x0)]) w' :=
 Le (fn:=Tryz.f49) (r:=fun (x:Nat)=>.slice (some ⟨x,0,none⟩) k k) (fs:=fun (x:Nat)=>[ah (bf .i64) 1 2 (some ⟨x,0,none⟩) k k (List.replicate k x0)]) (t:=.m false (.x (.int .u64 1) (.x (.int .u64 (k:Int)) (.c (.tuple #[.int .u64 0,.int .u64 (k:Int)]) (.k (.k (.m false (.x (.int .i64 (k:Int)) (.w (Nat) none (fun x=>.slice (some ⟨x,0,none⟩) k k) (fun x=>[oI (some ⟨x,0,none⟩) k k (List.replicate k 0)]) (fun x1=>let k0:Option Addr:=some ⟨x1,0,none⟩; .w (Unit) (some 0) (fun x=>.int .i64 1) (fun x=>[oI k0 k k (RL x0 0 k 1)]) (fun x2=>.l (Nat) (fun x=>[(7,.slice k0 k k,none),(8,.int .i64 (x:Int),none)]) (fun x=>[]) [] [] (fun x=>[oI k0 k k (RL x0 0 k x)]) (fun x=>1≤x∧x≤k) (fun x=>k - x) (1:Nat) (fun y3=>.s (.ow [] [] (.x (.slice (cutAt k0 k y3 1) (k - y3) (k - y3)) (.x (.slice k0 y3 k) (.w (Unit) (some 0) (fun x=>.int .i64 ((min y3 (k - y3):Nat):Int)) (fun x=>[oI k0 k k (RL x0 0 k (y3+min y3 (k - y3)))]) (fun x7=>.e (.int .i64 ((y3+min y3 (k - y3):Nat):Int)) .z))))) .z)))))))))))) (X :=
 let k0:Value:=.int .i64 (k:Int);let k1:=List.replicate k 0;let k2:=([]:List (Option jv));(decide ((k:Int) < 0))=false∧jd Tryz.prog w [] (convert 3 115 (.int .i64 1)) (.int .u64 1)∧jd Tryz.prog w [] (convert 3 115 k0) (.int .u64 (k:Int))∧iq Tryz.prog w [] 83 #[.int .u64 1,.int .u64 (k:Int)] (.tuple #[.int .u64 0,.int .u64 (k:Int)])∧(decide ((k:Int) > 9223372036854775807))=false∧jd Tryz.prog w [] (convert 115 3 (.int .u64 (k:Int))) k0∧jw Tryz.prog w [] (Instr.makeSlice 25 k0 k0) (fun _=>False) (Nat) (fun x=>.slice (some ⟨x,0,none⟩) k k) (fun x=>[oI (some ⟨x,0,none⟩) k k k1])∧∀ x1:Nat,let k3:Option Addr:=some ⟨x1,0,none⟩;let k4:List Fact:=[oI k3 k k (RL x0 0 k 1)];jw Tryz.prog w [oI k3 k k k1] (Builtin.copy_ #[25,25] 3 #[.slice k3 k k,.slice A 1 1]) ((oI k3 k k k1).S) (Unit) (fun x=>.int .i64 1) (fun x=>k4)∧∀ x2:Unit,xg w k4 []∧(1≤(1:Nat)∧(1:Nat)≤k)∧(([.slice k3 k k,.int .i64 1]:List Value)=[.slice k3 k k,.int .i64 ((1:Nat):Int)]∧k2=[]∧iw w k4 [oI k3 k k (RL x0 0 k (1:Nat))])∧true=true∧∀ (y3:Nat),let k5:List Fact:=[oI k3 k k (RL x0 0 k (y3+min y3 (k - y3)))];let k6:=RL x0 0 k y3;let k7:=((y3+min y3 (k - y3):Nat):Int);let k8:=decide ((y3:Int) < (k:Int));let k9:=((min y3 (k - y3):Nat):Int);(1≤y3∧y3≤k)→∀ τ5:Nat→Value,(k8=true→qp w [oI k3 k k k6] []∧jd Tryz.prog w [] (Instr.sliceAt 25 (.slice k3 k k) (some (.int .i64 (y3:Int))) none none) (.slice (cutAt k3 k y3 1) (k - y3) (k - y3))∧jd Tryz.prog w [] (Instr.sliceAt 25 (.slice k3 k k) none (some (.int .i64 (y3:Int))) none) (.slice k3 y3 k)∧(∀ x:Unit,qp w k5 [])∧jw Tryz.prog w [oI k3 k k k6] (Builtin.copy_ #[25,25] 3 #[.slice (cutAt k3 k y3 1) (k - y3) (k - y3),.slice k3 y3 k]) ((oI k3 k k k6).S) (Unit) (fun x=>.int .i64 k9) (fun x=>k5)∧∀ x7:Unit,(.int .i64 (IntKind.i64.wrap ((y3:Int)+k9)):Value) = .int .i64 k7∧∃ x' : Nat,(1≤x'∧x'≤k)∧(k - x' < k - y3)∧(([.slice k3 k k,.int .i64 k7]:List Value)=[.slice k3 k k,.int .i64 (x' : Int)]∧k2=[]∧iw w k5 [oI k3 k k (RL x0 0 k x')])∧true=true)∧(k8=false→∃ x:Nat,(.slice k3 k k:Value) = .slice (some ⟨x,0,none⟩) k k∧iw w [oI k3 k k k6] ([oI (some ⟨x,0,none⟩) k k (List.replicate k x0)]))) Tryz.func49 (by kernel_rfl)
 (⟨by simp only [dq];omega,⟨(qja rfl (by kernel_rfl) (by rw [IntKind.wrap_u64];omega)),⟨(qja rfl (by kernel_rfl) (by rw [IntKind.wrap_u64];omega)),⟨gives (zdx k hk),⟨by simp only [dq];omega,⟨(qja rfl (by kernel_rfl) (by rw [IntKind.wrap_i64];omega)),⟨(qnv Tryz.underlying25 qb0 (by omega) (by unfold maxLen;omega)),fun x1=>⟨(qk3 (qtd hk1) (qjz (k:=1) (pz _) (Fh _) (fun h=>h) Tryz.underlying25 qb0 (ji (j:=0) rfl) (by omega) (fun g e=>by cases e;rfl) rfl (fun w hw _=>⟨_,Zz (pz _) (Nat.le_refl _) hx hw⟩) rfl (by show min 1 (k - 0)=1;omega) (by decide))),fun x2=>⟨(fun w _ _=>zh),(by omega),⟨rfl,rfl,(jm (.cons_cons _ (List.nil_sublist _)))⟩,rfl,fun y3 I4 τ5=>⟨fun h6=>have h6:(y3:Int) < (k:Int):=(by simpa using h6)
⟨fun w _ ha=>trivial,⟨(fun w _ _=>qi3 Tryz.underlying25 qb0 (by omega) w),⟨(fun w _ _=>qhf Tryz.underlying25 qb0 (by omega) w),⟨fun x w _ ha=>trivial,(qk3 (qvp (by omega)) (qjz (pz _) (Fh _) (fun h=>h) Tryz.underlying25 qb0 (ji (j:=0) rfl) (by omega) (fun g e=>qte (by omega) e) rfl (fun w _ ha=>⟨_,qgo ((ji (j:=0) rfl w ha).reads (pz _) (by decide)) y3⟩) (qz5 (by omega)) rfl (qvq (by omega) (by omega)))),fun x7=>⟨lg (by omega) (by omega) (by omega),⟨((y3+min y3 (k - y3)):Nat),(by omega),(by omega),⟨rfl,rfl,(jm (.cons_cons _ (List.nil_sublist _)))⟩,rfl⟩⟩⟩⟩⟩⟩,
 fun h6=>have h6:¬ (y3:Int) < (k:Int):=(by simpa using h6)
⟨x1,rfl,gq (by rw [qz6 (show k≤y3 by omega) (by omega)]) (jm (List.Sublist.refl _))⟩⟩⟩⟩⟩⟩⟩⟩⟩⟩⟩)
end Go.Proofs.YtbbjlfbemibfcaaGreat.book
end
