/-
  BookI5
-/
import Derived.Test.YtbbjlfbemibfcaaGreatMrt36
set_option linter.unusedVariables false
set_option linter.unusedSimpArgs false
namespace Go.Proofs.YtbbjlfbemibfcaaGreat.book
open Go.RowKit Go.Proofs.YtbbjlfbemibfcaaGreat
open Go.Proofs.YtbbjlfbemibfcaaGreat.order (Or open_ worth)
open Go.Proofs.YtbbjlfbemibfcaaGreat.cell (Ce Ex)
open Go.Proofs.YtbbjlfbemibfcaaGreat.rec (Rc)
set_option maxRecDepth 20000
open Go.Proofs.YtbbjlfbemibfcaaGreat.order (oz)
theorem reads_later {w w' : World} {g:Nat} {cs:Array Value} (hw:Below w.heap.size w w') (hb:Reads0 w [] g 0 cs):Reads0 w' [] g 0 cs:=fun w2 h2 _=>hb w2 (hw.trans (h2.mono hw.size)) trivial
theorem reads_block {w:World} {g:Nat} {cs:Array Value} {T:TypeId} (h:w.heap[g]?=some (.cells cs T (0,0))):Reads0 w [] g 0 cs:=fun w2 h2 _ i v hv=>by
 have hl:=(Array.getElem?_eq_some_iff.1 h).1
 rw [Nat.zero_add]
 exact (block_cell ((h2.block g hl).trans h) i v hv).1
theorem there_pl {s:St} {a b:Int} (hL:Lens s) (ht:There s a b):placeV s a b=((place s.y a b:Nat):Int)∧place s.y a b < s.cs.length:=by
 have h:=placeV_is hL.1 ht
 have:=hL.2.1
 unfold place;omega
def weighV (s:St) (o:Or):Ex × Int × Int:=if (cell.of_ (s.cs.getD (place s.y o.a o.y) cz)).2=0 then ((cell.of_ (s.cs.getD (place s.y o.a o.y) cz)).1,(limit.whole (acc s.y o.a.toNat s.cs)).1,(limit.whole (acc s.y o.a.toNat s.cs)).2) else (xz,0,(cell.of_ (s.cs.getD (place s.y o.a o.y) cz)).2)
theorem weigh_yes {s:St} {o:Or} (h:(cell.of_ (s.cs.getD (place s.y o.a o.y) cz)).2=0):weighV s o=((cell.of_ (s.cs.getD (place s.y o.a o.y) cz)).1,(limit.whole (acc s.y o.a.toNat s.cs)).1,(limit.whole (acc s.y o.a.toNat s.cs)).2):=if_pos h
theorem weigh_no {s:St} {o:Or} (h:¬ (cell.of_ (s.cs.getD (place s.y o.a o.y) cz)).2=0):weighV s o=(xz,0,(cell.of_ (s.cs.getD (place s.y o.a o.y) cz)).2):=if_neg h
def didV (r:Rc):Int:=if r.t=3 then r.q else 0
def againV (c:Ce) (o p:Or) (q:Int):Ce × Int:=if (cell.go c o).2=0 then (if (cell.did (cell.go c o).1 o.d q).2=0 then cell.come (cell.did (cell.go c o).1 o.d q).1 p else cell.did (cell.go c o).1 o.d q) else cell.go c o
theorem again_1 {c:Ce} {o p:Or} {q:Int} (h:¬ (cell.go c o).2=0):againV c o p q=cell.go c o:=if_neg h
theorem again_2 {c:Ce} {o p:Or} {q:Int} (h:(cell.go c o).2=0) (h2:¬ (cell.did (cell.go c o).1 o.d q).2=0):againV c o p q=cell.did (cell.go c o).1 o.d q:=by unfold againV;rw [if_pos h,if_neg h2]
theorem again_3 {c:Ce} {o p:Or} {q:Int} (h:(cell.go c o).2=0) (h2:(cell.did (cell.go c o).1 o.d q).2=0):againV c o p q=cell.come (cell.did (cell.go c o).1 o.d q).1 p:=by unfold againV;rw [if_pos h,if_pos h2]
theorem lat (v:Sv) (s:St) (o:Or) (g:Nat)  (w:World) (hb:Reads0 w [] g 0 (stc v s)):Calls Tryz.prog 101 #[.pointer (some ⟨g,0,none⟩),.agg (order.oc o)] w fun e w'=>e = .returned (.int .i64 (placeV s o.a o.y))∧Below w.heap.size w w' :=
 calls_lo (fn:=Tryz.f101) (c0:=(stc v s)) (r:=.int .i64 (placeV s o.a o.y)) (t:=.o [] (.c (.int .i64 (placeV s o.a o.y)) .z)) (X :=
∀ g1:Nat,Gives Tryz.prog w [] 68 #[.agg (stc v s),.int .i64 o.a,.int .i64 o.y] (.int .i64 (placeV s o.a o.y))∧(.int .i64 (placeV s o.a o.y):Value) = .int .i64 (placeV s o.a o.y)) Tryz.func101 rfl hb (by kernel_rfl)
 (fun g1=>⟨gives (lplace _ _ _ _),rfl⟩)
theorem lweigh (v:Sv) (s:St) (o:Or) (g:Nat)  (w:World) (hb:Reads0 w [] g 0 (stc v s)) (h:InS w (Lt w.heap.size) v s) (hL:Lens s) (ht:There s o.a o.y):Calls Tryz.prog 124 #[.pointer (some ⟨g,0,none⟩),.agg (order.oc o)] w fun e w'=>e = .returned (.tuple #[.agg (cell.xc (weighV s o).1),.int .i64 (weighV s o).2.1,.int .i64 (weighV s o).2.2])∧Below w.heap.size w w' :=
 have hlen:=h.len
 have hpl:=there_pl hL ht
 calls_lo (fn:=Tryz.f124) (c0:=(stc v s)) (r:=.tuple #[.agg (cell.xc (weighV s o).1),.int .i64 (weighV s o).2.1,.int .i64 (weighV s o).2.2]) (t:=let k3:=s.cs.getD (place s.y o.a o.y) cz;let k0:Value:=.tuple #[.agg (cell.xc ((cell.of_ k3).1)),.int .i64 ((cell.of_ k3).2)];let k4:=limit.whole (acc s.y o.a.toNat s.cs);let k1:Value:=.tuple #[.int .i64 (k4.1),.int .i64 (k4.2)];let k2:Value:=.slice (cutAt v.A2 v.c2 (o.a.toNat * s.y.toNat) 4) s.y.toNat (v.c2 - o.a.toNat * s.y.toNat);let k5:=offA v.A2+(place s.y o.a o.y) * 4; .o [] (.two (.c (.int .i64 (placeV s o.a o.y)) (.p (blkA v.A2) k5 (cell.cc k3) (.two (.c k0 (.s .z (.o [] (.c k2 (.c k1 .z))))) (.c k0 (.s .z (.o [] (.c k2 (.c k1 .z)))))))) (.c (.int .i64 (placeV s o.a o.y)) (.p (blkA v.A2) k5 (cell.cc k3) (.c k0 (.s .z (.o [] (.c k2 (.c k1 .z))))))))) (X :=
 let k10:=place s.y o.a o.y;let k0:=cell.of_ (s.cs.getD k10 cz);let k1:Array Value:=#[.agg (cell.xc (weighV s o).1),.int .i64 (weighV s o).2.1,.int .i64 (weighV s o).2.2];let k2:=limit.whole (acc s.y o.a.toNat s.cs);let k3:=cutAt v.A2 v.c2 (o.a.toNat * s.y.toNat) 4;let k4:=(.tuple #[.agg #[.int .i64 0,.int .i64 0,.int .i64 0],.int .i64 0,.int .i64 (k0.2)]:Value);let k5:=cell.cc (s.cs.getD k10 cz);let k6:=(.tuple #[.agg (cell.xc (k0.1)),.int .i64 (k2.1),.int .i64 (k2.2)]:Value);let k7:=v.c2 - o.a.toNat * s.y.toNat;let k8 := !decide ((k0.2)=0);let k9:Value:=.tuple #[.agg (cell.xc (k0.1)),.int .i64 (k0.2)];let k11:Value:=.tuple #[.int .i64 (k2.1),.int .i64 (k2.2)];let k14:Value:=.int .i64 (placeV s o.a o.y);let k12:=Instr.indexAt 23 (.slice v.A2 s.cs.length v.c2) k14;let k13:Value:=.pointer (some ⟨blkA v.A2,offA v.A2+k10 * 4,none⟩);let k15:Array Value:=#[.agg (stc v s),.int .i64 o.a];let k16:Array Value:=#[.pointer (some ⟨g,0,none⟩),.agg (order.oc o)];let k17:Value:=.slice k3 s.y.toNat k7;let k18:Array Value:=#[.slice k3 s.y.toNat k7]; ∀ g1:Nat,∀ g2:Nat,(Gives Tryz.prog w [] 101 k16 k14∧Yields0 Tryz.prog w [] k12 k13∧Reads0 w [] (blkA v.A2) (offA v.A2+k10 * 4) k5∧(Gives Tryz.prog w [] 93 #[.agg k5] k9∧∀ g4:Nat,(k8=true→k4 = .tuple k1)∧(k8=false→Gives Tryz.prog w [] 72 k15 k17∧Gives Tryz.prog w [] 71 k18 k11∧k6 = .tuple k1))∧(∀ g4:Nat,Gives Tryz.prog w [] 93 #[.agg k5] k9∧(k8=true→k4 = .tuple k1)∧(k8=false→Gives Tryz.prog w [] 72 k15 k17∧Gives Tryz.prog w [] 71 k18 k11∧k6 = .tuple k1)))∧(∀ g3:Nat,Gives Tryz.prog w [] 101 k16 k14∧Yields0 Tryz.prog w [] k12 k13∧Reads0 w [] (blkA v.A2) (offA v.A2+k10 * 4) k5∧Gives Tryz.prog w [] 93 #[.agg k5] k9∧(k8=true→k4 = .tuple k1)∧(k8=false→Gives Tryz.prog w [] 72 k15 k17∧Gives Tryz.prog w [] 71 k18 k11∧k6 = .tuple k1))) Tryz.func124 rfl hb (by kernel_rfl)
 (fun g1=>fun g2=>⟨⟨(fun w2 hw _=>lat v s o g w2 (reads_later hw hb)),⟨(index_at hpl.1 (low_index Tryz.underlying23 info_cell cell_cells (Nat.le_refl _) h.c rfl hpl.2)),(low_reads cell_cells (Nat.le_refl _) h.c (at_getD hpl.2)),⟨⟨l_of (fine_ce h.c _ (getD_mem hpl.2)),fun g4=>⟨fun h1=>have h1:¬ ((cell.of_ (s.cs.getD (place s.y o.a o.y) cz)).2)=0:=(by simpa using h1)
(by rw [weigh_no h1]<;>rfl),
 fun h1=>have h1:((cell.of_ (s.cs.getD (place s.y o.a o.y) cz)).2)=0:=(by simpa using h1)
⟨(fun w hw _=>lcells v s o.a w (h.later hw) hL ⟨ht.1,ht.2.1⟩),⟨l_whole (fun w hw _=>acc_reads (h.later hw).c h.nc.1) (acc_length (lim_rng hL ⟨ht.1,ht.2.1⟩).2.2.2.2.1) (by have:=(lim_rng hL ⟨ht.1,ht.2.1⟩).2.2.2.2.2.2.1;omega),(by rw [weigh_yes h1]<;>rfl)⟩⟩⟩⟩,
 fun g4=>⟨l_of (fine_ce h.c _ (getD_mem hpl.2)),⟨fun h2=>have h2:¬ ((cell.of_ (s.cs.getD (place s.y o.a o.y) cz)).2)=0:=(by simpa using h2)
(by rw [weigh_no h2]<;>rfl),
 fun h2=>have h2:((cell.of_ (s.cs.getD (place s.y o.a o.y) cz)).2)=0:=(by simpa using h2)
⟨(fun w hw _=>lcells v s o.a w (h.later hw) hL ⟨ht.1,ht.2.1⟩),⟨l_whole (fun w hw _=>acc_reads (h.later hw).c h.nc.1) (acc_length (lim_rng hL ⟨ht.1,ht.2.1⟩).2.2.2.2.1) (by have:=(lim_rng hL ⟨ht.1,ht.2.1⟩).2.2.2.2.2.2.1;omega),(by rw [weigh_yes h2]<;>rfl)⟩⟩⟩⟩⟩⟩⟩,
 fun g3=>⟨(fun w2 hw _=>lat v s o g w2 (reads_later hw hb)),⟨(index_at hpl.1 (low_index Tryz.underlying23 info_cell cell_cells (Nat.le_refl _) h.c rfl hpl.2)),(low_reads cell_cells (Nat.le_refl _) h.c (at_getD hpl.2)),⟨l_of (fine_ce h.c _ (getD_mem hpl.2)),⟨fun h3=>have h3:¬ ((cell.of_ (s.cs.getD (place s.y o.a o.y) cz)).2)=0:=(by simpa using h3)
(by rw [weigh_no h3]<;>rfl),
 fun h3=>have h3:((cell.of_ (s.cs.getD (place s.y o.a o.y) cz)).2)=0:=(by simpa using h3)
⟨(fun w hw _=>lcells v s o.a w (h.later hw) hL ⟨ht.1,ht.2.1⟩),⟨l_whole (fun w hw _=>acc_reads (h.later hw).c h.nc.1) (acc_length (lim_rng hL ⟨ht.1,ht.2.1⟩).2.2.2.2.1) (by have:=(lim_rng hL ⟨ht.1,ht.2.1⟩).2.2.2.2.2.2.1;omega),(by rw [weigh_yes h3]<;>rfl)⟩⟩⟩⟩⟩⟩⟩)
theorem ldidv (r:Rc)  (w:World):Calls Tryz.prog 109 #[.agg (rec.rc r)] w fun e w'=>e = .returned (.int .i64 (didV r))∧Below w.heap.size w w' :=
 calls_by (fn:=Tryz.f109) (r:=.int .i64 (didV r)) (t:=.s .z .z) (X :=
∀ g0:Nat,((decide (r.t=3))=true→(.int .i64 r.q:Value) = .int .i64 (didV r))∧((decide (r.t=3))=false→(.int .i64 0:Value) = .int .i64 (didV r))) Tryz.func109 (by kernel_rfl)
 (fun g0=>⟨fun h1=>have h1:r.t=3:=(by simpa using h1)
(by unfold didV;rw [if_pos h1]),
 fun h1=>have h1:¬ r.t=3:=(by simpa using h1)
(by unfold didV;rw [if_neg h1])⟩)
theorem lagain (c:Ce) (o p:Or) (q:Int) (hc:c.fine) (ho:o.fine) (hp:p.fine) (hq:frame.inR q) (w:World):Calls Tryz.prog 105 #[.agg (cell.cc c),.agg (order.oc o),.agg (order.oc p),.int .i64 q] w fun e w'=>e = .returned (.tuple #[.agg (cell.cc (againV c o p q).1),.int .i64 (againV c o p q).2])∧Below w.heap.size w w' :=
 calls_by (fn:=Tryz.f105) (r:=.tuple #[.agg (cell.cc (againV c o p q).1),.int .i64 (againV c o p q).2]) (t:=let k0:=cell.did ((cell.go c o).1) o.d q; .c (.tuple #[.agg (cell.cc ((cell.go c o).1)),.int .i64 ((cell.go c o).2)]) (.s .z (.c (.tuple #[.agg (cell.cc (k0.1)),.int .i64 (k0.2)]) (.s .z (.c (.tuple #[.agg (cell.cc ((cell.come (k0.1) p).1)),.int .i64 ((cell.come (k0.1) p).2)]) .z))))) (X :=
 let k0:=cell.did ((cell.go c o).1) o.d q;let k1:Array Value:=#[.agg (cell.cc (againV c o p q).1),.int .i64 (againV c o p q).2];let k2:Array Value:=#[.agg (cell.cc ((cell.come (k0.1) p).1)),.int .i64 ((cell.come (k0.1) p).2)];let k3:=cell.cc ((cell.go c o).1);let k4:=(cell.go c o).2;let k5:=cell.cc (k0.1); ∀ g0:Nat,∀ g1:Nat,∀ g2:Nat,∀ g3:Nat,Gives Tryz.prog w [] 127 #[.agg (cell.cc c),.agg (order.oc o)] (.tuple #[.agg k3,.int .i64 k4])∧((!decide (k4=0))=true→(.tuple #[.agg k3,.int .i64 k4]:Value) = .tuple k1)∧((!decide (k4=0))=false→Gives Tryz.prog w [] 128 #[.agg k3,.int .i64 o.d,.int .i64 q] (.tuple #[.agg k5,.int .i64 (k0.2)])∧((!decide ((k0.2)=0))=true→(.tuple #[.agg k5,.int .i64 (k0.2)]:Value) = .tuple k1)∧((!decide ((k0.2)=0))=false→Gives Tryz.prog w [] 70 #[.agg k5,.agg (order.oc p)] (.tuple k2)∧(.tuple k2:Value) = .tuple k1))) Tryz.func105 (by kernel_rfl)
 (fun g0=>fun g1=>fun g2=>fun g3=>⟨l_go hc ho,⟨fun h1=>have h1:¬ ((cell.go c o).2)=0:=(by simpa using h1)
(by rw [again_1 h1]<;>rfl),
 fun h1=>have h1:((cell.go c o).2)=0:=(by simpa using h1)
⟨l_did (cell.go_fine (e:=(cell.go c o).2) hc rfl) ho.2.2.2.1 hq,⟨fun h2=>have h2:¬ ((cell.did ((cell.go c o).1) o.d q).2)=0:=(by simpa using h2)
(by rw [again_2 h1 h2]<;>rfl),
 fun h2=>have h2:((cell.did ((cell.go c o).1) o.d q).2)=0:=(by simpa using h2)
⟨l_come (cell.did_fine (e:=(cell.did (cell.go c o).1 o.d q).2) (cell.go_fine (e:=(cell.go c o).2) hc rfl) rfl) hp,(by rw [again_3 h1 h2]<;>rfl)⟩⟩⟩⟩⟩)
end Go.Proofs.YtbbjlfbemibfcaaGreat.book
