/-
  z5p, z5q
-/
import Derived.Test.YtbbjlfbemibfcaaGreatMrr19
import Derived.Test.YtbbjlfbemibfcaaGreatMrr20
import Derived.Test.YtbbjlfbemibfcaaGreatMrr36
import Derived.Test.YtbbjlfbemibfcaaGreatMrr17
import Derived.Test.YtbbjlfbemibfcaaGreatMrr04
import Derived.Test.YtbbjlfbemibfcaaGreatMrr31
set_option linter.unusedVariables false
set_option linter.unusedSimpArgs false
section
namespace Go.Proofs.YtbbjlfbemibfcaaGreat.row
open Go.RowKit Go.Proofs.YtbbjlfbemibfcaaGreat
set_option maxRecDepth 20000
open Go.Proofs.YtbbjlfbemibfcaaGreat.frame (be zi Me u le4)
open Go.Proofs.YtbbjlfbemibfcaaGreat.book (St right)
open Go.Proofs.YtbbjlfbemibfcaaGreat.order (Or oz)
open Go.Proofs.YtbbjlfbemibfcaaGreat.cell (Ce Ex)
theorem qut {P:Program} {w0:World} {D Q:List Fact} {f:FuncId} {args:Array Value} {α:Type} {r:α→Value} {fs:α→List Fact} (hB:xg w0 D Q) (h:qm P w0 (Q++D) f args α r fs):qm P w0 D f args α r fs:=by
 intro w hw ha hs hp hy
 have hn:=hB w hw ha
 have hno:∀ f ∈ Q,∀ k,¬ f.S k:=fun f hf k hk=>by
  have:=hn.ni f hf k hk
  rcases this.1 with h1 | h1
  ·exact h1
  ·omega
 have hany:∀ k,anyS (Q++D) k→anyS D k:=fun k ⟨f,hf,hk⟩=>by
  rcases List.mem_append.1 hf with hf | hf
  ·exact absurd hk (hno f hf k)
  ·exact ⟨f,hf,hk⟩
 refine (h w hw (Bf.2 fun f hf=>?_) (fun f hf=>?_) ?_ (fun f hf k hk=>?_)).mono ?_
 ·rcases List.mem_append.1 hf with hf | hf
  ·exact Bf.1 hn.all f hf
  ·exact Bf.1 ha f hf
 ·rcases List.mem_append.1 hf with hf | hf
  ·exact hn.stable f hf
  ·exact hs f hf
 ·rw [List.pairwise_append]
  exact ⟨hn.apart,hp,fun f hf g _ k hk=>absurd hk (hno f hf k)⟩
 ·rcases List.mem_append.1 hf with hf | hf
  ·exact absurd hk (hno f hf k)
  ·exact hy f hf k hk
 ·rintro e w' ⟨x,rfl,hb,hfr,hm⟩
  exact ⟨x,rfl,hb,fun k h1 h2 h3=>hfr k h1 h2 (fun h4=>h3 (hany k h4)),⟨hm.all,fun f hf k hk=>⟨(hm.ni f hf k hk).1.imp (hany k) id,(hm.ni f hf k hk).2⟩,hm.apart,hm.stable⟩⟩
theorem wf_u32 {n:Nat} (h:n < 4294967296):(Lit.int .u32 (n:Int)).wf=true:=by
 simp [Lit.wf,IntKind.min,IntKind.max,IntKind.signed,IntKind.bits];omega
theorem qio {w:World} {S:Nat→Prop} {A:Option Addr} {xs:List Int} (h:ql (bf .u8) 1 w S A xs) (hw:∀ x ∈ xs,(Lit.int .u8 x).wf=true):IntsIn .u8 w S A xs :=
 ⟨hw,fun hn=>by
  obtain ⟨b,off,e,hS,hc⟩:=h hn
  refine ⟨b,off,e,hS,fun j hj=>?_⟩
  obtain ⟨cs,hl,hcell,hcs,hwf⟩:=hc j (xs.getD j 0) (ou hj)
  have:=hcell 0 _ (by rw [hcs];rfl)
  rw [Nat.mul_one,Nat.add_zero] at this
  exact this⟩
theorem qh1 {w:World} {S:Nat→Prop} {A:Option Addr} {xs:List Int} (h:ql (bf .u8) 1 w S A xs):∀ x ∈ xs,(Lit.int .u8 x).wf=true:=fun x hx=>by
 obtain ⟨j,hj,rfl⟩:=List.getElem_of_mem hx
 obtain ⟨b,off,e,hS,hc⟩:=h (by omega)
 obtain ⟨cs,hl,hcell,hcs,hwf⟩:=hc j xs[j] (List.getElem?_eq_getElem hj)
 exact hwf
section
variable {w0:World} {D:List Fact} {s:St} {v:Sv} {bs:List Nat} {A:Option Addr} {n c:Nat}
theorem qkt {j:Nat} (h:D[j]?=some (ah (bf .u8) 1 5 A n c (ak bs))):∀ w,Below w0.heap.size w0 w→All D w→Az w w.heap.size A bs:=fun w _ ha=>by
 have hE:=(ji h w ha).elems (S':=Lt w.heap.size) (pz _) (by decide) (fun _ h=>h.elim) (fun _ _ h=>h)
 exact Q5.Ws (qio hE (qh1 hE)) (fun _ h=>h)
theorem zad (hx:∀ w,Below w0.heap.size w0 w→All D w→Az w w.heap.size A bs) (hn:bs.length≤100000):iq Tryz.prog w0 D 55 #[.slice A (ak bs).length c] (.int .u32 ((crc.more 0 bs:Nat):Int)):=fun w hw ha =>
 (crc.q7v A _ c w.heap.size bs _ w (hx w hw ha) (by simp [ak]) (by simp [ak];omega) rfl).mono (by rintro e w' ⟨rfl,rfl⟩;exact ⟨rfl,Below.refl _ _⟩)
theorem zae {m:Nat} (h:m < 4294967296):iq Tryz.prog w0 D 54 #[.int .u32 (m:Int)] (.int .u32 ((Bj m:Nat):Int)):=fun w _ _=>q9q m w h
theorem Fp {w:World} {B:Nat} (h:Az w B A bs):crc.more 0 bs < 4294967296:=crc.Fp bs (by decide) (fun b hb=>Nat.lt_trans (h.lt b hb) (by decide))
theorem q6l {m:Nat} (h:m < 4294967296):[]++jf 4 [((Bj m:Nat):Int)]=le4 m:=by
 obtain ⟨h1,h2⟩:=qvb h
 rw [← h1]
 have e:u ((Bj m:Nat):Int)=Bj m:=by unfold u;omega
 simp [jf,e]
theorem q8y (m:Option Addr × Nat) {k:Nat} (h:k < 4294967296):qm Tryz.prog w0 [ah (bf .u32) 1 64 m.1 [((Bj k:Nat):Int)].length m.2 [((Bj k:Nat):Int)]] 53 #[.slice none 0 0,.int .i64 4,.slice m.1 [((Bj k:Nat):Int)].length m.2] (Option Addr × Nat) (fun x=>.slice x.1 (ak (le4 k)).length x.2) (fun x=>[ah (bf .u8) 1 5 x.1 (ak (le4 k)).length x.2 (ak (le4 k)),ah (bf .u32) 1 64 m.1 [((Bj k:Nat):Int)].length m.2 [((Bj k:Nat):Int)]]):=by
 have:=qsm (none,0) m [] [((Bj k:Nat):Int)] 4 w0 ⟨by simp,by simp⟩ (by omega)
 simp only [q6l h] at this
 exact qut (Rh (pz _) 1 _) this
end
theorem q6m (A:Option Addr) (c:Nat) (bs:List Nat)  (w:World) (hx:Az w w.heap.size A bs) (hn:bs.length≤100000):Calls Tryz.prog 22 #[.slice A (ak bs).length c] w fun e w' => ∃ x:Option Addr × Nat,e = .returned (.slice x.1 (ak (le4 (crc.more 0 bs))).length x.2)∧Below w.heap.size w w'∧xq (fun _=>False) w.heap.size ([ah (bf .u8) 1 5 x.1 (ak (le4 (crc.more 0 bs))).length x.2 (ak (le4 (crc.more 0 bs)))]) w' :=
 have hl:=Fp hx
 Le (fn:=Tryz.f22) (r:=fun (x:Option Addr × Nat)=>.slice x.1 (ak (le4 (crc.more 0 bs))).length x.2) (fs:=fun (x:Option Addr × Nat)=>[ah (bf .u8) 1 5 x.1 (ak (le4 (crc.more 0 bs))).length x.2 (ak (le4 (crc.more 0 bs)))]) (t:=let k0:=((Bj (crc.more 0 bs):Nat):Int);let k1:=ak (le4 (crc.more 0 bs)); .c (.int .u32 ((crc.more 0 bs:Nat):Int)) (.c (.int .u32 k0) (.w (Nat) none (fun x=>.slice (some ⟨x,0,none⟩) ([k0].length) ([k0].length)) (fun x=>[ah (bf .u32) 1 64 (some ⟨x,0,none⟩) ([k0].length) ([k0].length) ([k0])]) (fun x1=>.cD none (Option Addr × Nat) (fun x=>.slice x.1 (k1.length) x.2) (fun x=>#[]) (fun x=>[ah (bf .u8) 1 5 x.1 (k1.length) x.2 k1]) (fun x2=>.z))))) (X :=
 let k0:=((Bj (crc.more 0 bs):Nat):Int);let k1:=ak (le4 (crc.more 0 bs));let k2:=((crc.more 0 bs:Nat):Int);iq Tryz.prog w [] 55 #[.slice A ((ak bs).length) c] (.int .u32 k2)∧iq Tryz.prog w [] 54 #[.int .u32 k2] (.int .u32 k0)∧jw Tryz.prog w [] (Instr.buildSlice 119 1 #[(0,.int .u32 k0)]) (fun _=>False) (Nat) (fun x=>.slice (some ⟨x,0,none⟩) ([k0].length) ([k0].length)) (fun x=>[ah (bf .u32) 1 64 (some ⟨x,0,none⟩) ([k0].length) ([k0].length) ([k0])])∧∀ x1:Nat,qm Tryz.prog w [ah (bf .u32) 1 64 (some ⟨x1,0,none⟩) ([k0].length) ([k0].length) ([k0])] 53 #[.slice none 0 0,.int .i64 4,.slice (some ⟨x1,0,none⟩) ([k0].length) ([k0].length)] (Option Addr × Nat) (fun x=>.slice x.1 (k1.length) x.2) (fun x=>[ah (bf .u8) 1 5 x.1 (k1.length) x.2 k1])∧∀ x2:Option Addr × Nat,∃ x:Option Addr × Nat,(.slice x2.1 (k1.length) x2.2:Value) = .slice x.1 k1.length x.2∧iw w [ah (bf .u8) 1 5 x2.1 (k1.length) x2.2 k1] ([ah (bf .u8) 1 5 x.1 k1.length x.2 k1])) Tryz.func22 (by kernel_rfl)
 (⟨(zad (fun w hw _=>Ints.more (hx.below hw) hw.size) hn),⟨(zae hl),⟨(qc6 (xs:=[((Bj (crc.more 0 bs):Nat):Int)]) (by kernel_rfl) (fun g=>by kernel_rfl) (Bq (wf_u32 (qvb hl).2) Ov) (by simp only [List.length_cons,List.length_nil];omega)),fun x1=>⟨(Uh (fun x=>(jm (.cons_cons _ (List.nil_sublist _)))) (q8y ((some ⟨x1,0,none⟩),[((Bj (crc.more 0 bs):Nat):Int)].length) hl)),fun x2=>⟨(x2.1,x2.2),rfl,(oq [0] (by decide) rfl)⟩⟩⟩⟩⟩)
section
variable {w0:World} {D:List Fact} {s:St} {v:Sv} {bs:List Nat} {A:Option Addr} {n c:Nat}
theorem qvw (hx:∀ w,Below w0.heap.size w0 w→All D w→Az w w.heap.size A bs) (hn:bs.length≤100000):qg Tryz.prog w0 D 22 #[.slice A (ak bs).length c] (Option Addr × Nat) (fun x=>.slice x.1 (ak (le4 (crc.more 0 bs))).length x.2) (fun x=>[ah (bf .u8) 1 5 x.1 (ak (le4 (crc.more 0 bs))).length x.2 (ak (le4 (crc.more 0 bs)))]):=fun w hw ha=>q6m A c bs w (hx w hw ha) hn
theorem q0h (hs:∀ w,Below w0.heap.size w0 w→All D w→lu w (Lt w.heap.size) v s) (hr:Lens s):qg Tryz.prog w0 D 21 #[.agg (bg v s)] (Option Addr × Nat) (fun x=>.slice x.1 (ak (told s)).length x.2) (fun x=>[ah (bf .u8) 1 5 x.1 (ak (told s)).length x.2 (ak (told s))]):=fun w hw ha=>q7x v s w (hs w hw ha) hr
theorem qi5 (h:Lens s):(told s).length≤100000:=by have:=qjm h;have:=Yu h;omega
end
def whole (s:St):List Nat:=told s++le4 (crc.more 0 (told s))
def Eu (s:St):List Nat × Int:=if right s=true then (whole s,0) else ([],1)
theorem qp7 {s:St} (h:right s=true):Eu s=(whole s,0):=if_pos h
theorem qts {s:St} (h:right s=false):Eu s=([],1):=if_neg (by rw [h];decide)
def U1 (s:St):Int:=if right s=true then (Ig s:Int) else 0
theorem q0i (s:St):ak (told s)++ak (le4 (crc.more 0 (told s)))=ak (whole s):=by simp [whole,ak]
theorem qrp (s:St):(ak (told s)).length+(ak (le4 (crc.more 0 (told s)))).length=(ak (whole s)).length:=by simp [whole,ak]
theorem qph (v:Sv) (s:St)  (w:World) (h:lu w (Lt w.heap.size) v s):Calls Tryz.prog 12 #[.agg (bg v s)] w fun e w'=>e = .returned (.int .i64 (U1 s))∧Below w.heap.size w w' :=
 uw (fn:=Tryz.f12) (r:=.int .i64 (U1 s)) (t:=.cs (right s) (.c (.int .i64 ((Ig s:Nat):Int)) .z) .z) (X :=
 let k0:=((Ig s:Nat):Int); ∀ g0:Nat,iq Tryz.prog w [] 18 #[.agg (bg v s)] (.bool (right s))∧((right s)=true→iq Tryz.prog w [] 26 #[.int .i64 s.a,.int .i64 s.y,.int .i64 (s.os.length:Int)] (.int .i64 k0)∧((.int .i64 k0:Value) = .int .i64 (U1 s)))∧((right s)=false→((.int .i64 0:Value) = .int .i64 (U1 s)))) Tryz.func12 (by kernel_rfl)
 (fun g0=>⟨(book.qp6 (book.Ih h)),fun h1=>⟨(qy3 (uj h1)),(by unfold U1;rw [if_pos h1]<;>rfl)⟩,
 fun h1=>(by unfold U1;rw [if_neg (by rw [h1];decide)]<;>rfl)⟩)
theorem qlk (v:Sv) (s:St)  (w:World) (h:lu w (Lt w.heap.size) v s):Calls Tryz.prog 10 #[.agg (bg v s)] w fun e w' => ∃ x:Option Addr × Nat,e = .returned (.tuple #[.slice x.1 (ak (Eu s).1).length x.2,.int .i64 (Eu s).2])∧Below w.heap.size w w'∧xq (fun _=>False) w.heap.size ([ah (bf .u8) 1 5 x.1 (ak (Eu s).1).length x.2 (ak (Eu s).1)]) w' :=
 Le (fn:=Tryz.f10) (r:=fun (x:Option Addr × Nat)=>.tuple #[.slice x.1 (ak (Eu s).1).length x.2,.int .i64 (Eu s).2]) (fs:=fun (x:Option Addr × Nat)=>[ah (bf .u8) 1 5 x.1 (ak (Eu s).1).length x.2 (ak (Eu s).1)]) (t:=let k0:=ak (le4 (crc.more 0 (told s)));let k1:=Option Addr × Nat;let k2:=ak (whole s);let k3:=ak (told s); .cs (right s) (.cm k1 (fun x=>.slice x.1 (k3.length) x.2) (fun x=>[ah (bf .u8) 1 5 x.1 (k3.length) x.2 k3]) (fun x2=>.cm k1 (fun x=>.slice x.1 (k0.length) x.2) (fun x=>[ah (bf .u8) 1 5 x.1 (k0.length) x.2 k0]) (fun x3=>.w k1 (some 1) (fun x=>.slice x.1 (k2.length) x.2) (fun x=>[ah (bf .u8) 1 5 x.1 (k2.length) x.2 k2]) (fun x4=>.z)))) .z) (X :=
 let k0:=ak (le4 (crc.more 0 (told s)));let k4:=ak (told s);let k1:=k4.length;let k2:=ak (Eu s).1;let k6:=ak (whole s);let k3:=k6.length;let k5:=Option Addr × Nat; ∀ g0:Nat,iq Tryz.prog w [] 18 #[.agg (bg v s)] (.bool (right s))∧((right s)=true→qg Tryz.prog w [] 21 #[.agg (bg v s)] k5 (fun x=>.slice x.1 k1 x.2) (fun x=>[ah (bf .u8) 1 5 x.1 k1 x.2 k4])∧∀ x2:Option Addr × Nat,qg Tryz.prog w [ah (bf .u8) 1 5 x2.1 k1 x2.2 k4] 22 #[.slice x2.1 k1 x2.2] k5 (fun x=>.slice x.1 (k0.length) x.2) (fun x=>[ah (bf .u8) 1 5 x.1 (k0.length) x.2 k0])∧∀ x3:Option Addr × Nat,jw Tryz.prog w [ah (bf .u8) 1 5 x3.1 (k0.length) x3.2 k0,ah (bf .u8) 1 5 x2.1 k1 x2.2 k4] (Builtin.append_ #[28,28] 28 #[.slice x2.1 k1 x2.2,.slice x3.1 (k0.length) x3.2]) ((ah (bf .u8) 1 5 x2.1 k1 x2.2 k4).S) k5 (fun x=>.slice x.1 k3 x.2) (fun x=>[ah (bf .u8) 1 5 x.1 k3 x.2 k6])∧∀ x4:Option Addr × Nat,∃ x:Option Addr × Nat,(.tuple #[.slice x4.1 k3 x4.2,.int .i64 0]:Value) = .tuple #[.slice x.1 k2.length x.2,.int .i64 (Eu s).2]∧iw w [ah (bf .u8) 1 5 x4.1 k3 x4.2 k6,ah (bf .u8) 1 5 x3.1 (k0.length) x3.2 k0] ([ah (bf .u8) 1 5 x.1 k2.length x.2 k2]))∧((right s)=false→∃ x:Option Addr × Nat,(.tuple #[.slice none 0 0,.int .i64 1]:Value) = .tuple #[.slice x.1 k2.length x.2,.int .i64 (Eu s).2]∧iw w [] ([ah (bf .u8) 1 5 x.1 k2.length x.2 k2]))) Tryz.func10 (by kernel_rfl)
 (fun g0=>⟨(book.qp6 (book.Ih h)),fun h1=>⟨(q0h (book.Ih h) (uj h1)),fun x2=>⟨(qvw (qkt (j:=0) rfl) (qi5 (uj h1))),fun x3=>⟨(zu (qrp s) (q0i s) (zq (pz _) (Fh _) (by decide) Tryz.underlying28 y9 rfl (fun _ h=>h) (ji (j:=1) rfl) (fun w _ ha=>⟨_,(ji (j:=0) rfl w ha).reads (pz _) (by decide)⟩) (by simp) (by have:=qjm (uj h1);have:=Yu (uj h1);have e4:(ak (le4 (crc.more 0 (told s)))).length=4:=(by simp [ak,le4]);have e5:(ak (told s)).length=(told s).length:=(by simp [ak]);have:maxLen=9223372036854775807:=rfl;unfold maxLen;omega) (by have:=qjm (uj h1);have:=Yu (uj h1);have e4:(ak (le4 (crc.more 0 (told s)))).length=4:=(by simp [ak,le4]);have e5:(ak (told s)).length=(told s).length:=(by simp [ak]);have:maxLen=9223372036854775807:=rfl;omega) (fun h=>h))),fun x4=>⟨(x4.1,x4.2),(by rw [qp7 h1]<;>rfl),(by rw [qp7 h1];exact (oq [0] (by decide) rfl))⟩⟩⟩⟩,
 fun h1=>⟨(none,0),(by rw [qts h1]<;>rfl),(by rw [qts h1];exact book.qhe (pz _))⟩⟩)
end Go.Proofs.YtbbjlfbemibfcaaGreat.row
end
section
namespace Go.Proofs.YtbbjlfbemibfcaaGreat.row
open Go.RowKit Go.Proofs.YtbbjlfbemibfcaaGreat
set_option maxRecDepth 20000
open Go.Proofs.YtbbjlfbemibfcaaGreat.frame (be zi Me u le4)
open Go.Proofs.YtbbjlfbemibfcaaGreat.book (St right)
open Go.Proofs.YtbbjlfbemibfcaaGreat.order (Or oz)
def num (l:List Nat):Nat:=l.foldl (fun a b=>a * 256+b) 0
def at_ (L:List Nat) (p k:Nat):Int:=IntKind.i64.wrap ((num ((L.drop p).take k):Nat):Int)
def Iq (L:List Nat) (p:Nat):Or:=⟨at_ L p 8,at_ L (p+8) 1,at_ L (p+9) 1,at_ L (p+10) 1,at_ L (p+12) 8,at_ L (p+20) 8,at_ L (p+28) 8,at_ L (p+11) 1,at_ L (p+36) 8,at_ L (p+44) 8,at_ L (p+52) 8,decide (at_ L (p+60) 1=1)⟩
section
variable {P:Program} {w0:World} {D:List Fact} {l L:List Nat} {i k p c gb ob:Nat}
theorem qoc (h:i < l.length):num (l.take (i+1))=num (l.take i) * 256+l.getD i 0:=by
 unfold num
 rw [List.take_add_one,List.getElem?_eq_getElem h,List.foldl_append,List.getD_eq_getElem?_getD,List.getElem?_eq_getElem h]
 rfl
theorem getD_lt (h:∀ b ∈ l,b < 256):l.getD i 0 < 256:=by
 rw [List.getD_eq_getElem?_getD]
 cases e:l[i]? with
 |none=>simp
 |some b=>exact h b (List.mem_of_getElem? e)
theorem qp8 (h:∀ b ∈ l,b < 256):∀ i,num (l.take i) < 256 ^ i
 | 0=>by simp [num]
 |i+1=>by
  by_cases hi:i < l.length
  ·rw [qoc hi,Nat.pow_succ]
   have:=qp8 h i
   have:=getD_lt (i:=i) h
   omega
  ·rw [List.take_of_length_le (by omega),← List.take_of_length_le (l:=l) (i:=i) (by omega),Nat.pow_succ]
   have:=qp8 h i
   omega
theorem qm7 (hi:i < 8) (h:∀ b ∈ l,b < 256):num (l.take i) * 256 < 18446744073709551616:=by
 have h1:=qp8 h i
 have h2:256 ^ i≤256 ^ 7:=Nat.pow_le_pow_right (by decide) (by omega)
 omega
theorem qvx {src dst:TypeId} (hs:P.underlying src=some (.int .u8)) (hd:P.underlying dst=some (.int .u64)) (hi:i < l.length) (h:∀ b ∈ l,b < 256) :
  jd P w0 D (convert src dst (.int .u8 ((ak l).getD i 0))) (.int .u64 ((l.getD i 0:Nat):Int)):=fun w _ _=>by
 have hk' : P.intKind dst = .u64:=by simp [Program.intKind,hd]
 have e:(ak l).getD i 0=((l.getD i 0:Nat):Int):=by
  rw [List.getD_eq_getElem?_getD,List.getD_eq_getElem?_getD];unfold ak;rw [List.getElem?_map,List.getElem?_eq_getElem hi];rfl
 have:=getD_lt (i:=i) h
 rw [run_convert_int w src dst .u8 _ (by rw [hs];rfl) (by rw [hk'];exact hd),hk',e,IntKind.wrap_u64]
 congr 2
 omega
theorem qtt {src dst:TypeId} {x:Int} (hs:P.underlying src=some (.int .u64)) (hd:P.underlying dst=some (.int .i64)):jd P w0 D (convert src dst (.int .u64 x)) (.int .i64 (IntKind.i64.wrap x)):=fun w _ _=>by
 have hk' : P.intKind dst = .i64:=by simp [Program.intKind,hd]
 rw [run_convert_int w src dst .u64 _ (by rw [hs];rfl) (by rw [hk'];exact hd),hk']
theorem q6n {T:TypeId} {a:Nat} {q:Int} (h:a * 256 < 18446744073709551616) (hq:q=8) (ox oy:Operand):jd P w0 D (do eqGuard .shl T ox oy (.int .u64 (a:Int)) (.int .u64 q);Go.binOp .shl T (.int .u64 (a:Int)) (.int .u64 q)) (.int .u64 ((a * 256:Nat):Int)):=fun w _ _=>by
 subst hq
 have e:(Op.shift .shl .u64 (a:Int) .u64 8)=pure (.int .u64 ((a * 256:Nat):Int)):=by
  have:=shift_shl_u64 (x:=(a:Int)) (yk:=.u64) (y:=8) (by omega) (by omega)
  rw [this,IntKind.wrap_u64]
  congr 2
  have e8:(2:Int) ^ (8:Int).toNat=256:=by decide
  rw [e8];omega
 show (do eqGuard .shl T ox oy _ _;Op.shift .shl .u64 (a:Int) .u64 8).run P w=_
 rw [e];rfl
theorem q8z {T:TypeId} {a b:Nat} (h:a * 256 < 18446744073709551616) (hb:b < 256) (ox oy:Operand):jd P w0 D (do eqGuard .or T ox oy (.int .u64 ((a * 256:Nat):Int)) (.int .u64 (b:Int));Go.binOp .or T (.int .u64 ((a * 256:Nat):Int)) (.int .u64 (b:Int))) (.int .u64 ((a * 256+b:Nat):Int)):=fun w _ _=>by
 show (do eqGuard .or T ox oy _ _;pure (Value.int .u64 (bits .or .u64 ((a * 256:Nat):Int) (b:Int)))).run P w=_
 have e:a * 256 ||| b=a * 256+b:=by
  have:=qy4 (k:=8) (x:=a) (y:=b) (by omega)
  rw [Nat.or_comm,Nat.mul_comm]
  rw [show 256 * a=2 ^ 8 * a by omega,this]
 rw [u64_or_nat _ b h (by omega),e];rfl
theorem Hq:ak (L.drop p)=(ak L).drop p:=by simp [ak]
theorem qtu {t e:TypeId} {bytes:Nat} {z:Value} (ht:P.underlying t=some (.slice e)) (hinfo:(P.info? e).map (fun i=>(i.zero,i.size,i.bytes))=some (some z,1,bytes)) (hp:p+k≤L.length) (hc:L.length < c) :
  jd P w0 D (Instr.sliceAt t (.slice (some ⟨gb,ob+p,none⟩) (ak (L.drop p)).length (c - p)) (some (.int .i64 (k:Int))) none none) (.slice (some ⟨gb,ob+(p+k),none⟩) (ak (L.drop (p+k))).length (c - (p+k))):=fun w hw ha=>by
 have h:=book.qi3 (P:=P) (A:=some ⟨gb,ob+p,none⟩) (n:=(ak (L.drop p)).length) (c:=c - p) (k:=k) ht hinfo (by simp [ak];omega) w
 rw [← List.length_drop] at h
 have e1:cutAt (some ⟨gb,ob+p,none⟩) (c - p) k 1=some ⟨gb,ob+(p+k),none⟩:=by
  have hne:¬ c - p=k:=by omega
  rcases Nat.eq_zero_or_pos k with h0 | h0
  ·subst h0;simp [cutAt,hne,Addr.add]
  ·have h1:¬ k=0:=by omega
   simp [cutAt,hne,Addr.add,h1,Nat.add_assoc]
 have e2:(ak (L.drop p)).drop k=ak (L.drop (p+k)):=by simp [ak,List.drop_drop,Nat.add_comm]
 have e3:c - p - k=c - (p+k):=by omega
 rw [e1,e2,e3] at h
 exact h
theorem qvy {w:World} (h:ql (bf .u8) 1 w (Lt w.heap.size) (some ⟨gb,ob,none⟩) (ak L)) (hc:L.length < c):ql (bf .u8) 1 w (Lt w.heap.size) (some ⟨gb,ob+p,none⟩) (ak (L.drop p)):=by
 rw [Hq]
 have:=h.cut p (L.length+p+1) (by simp [ak];omega)
 have e1:cutAt (some (⟨gb,ob,none⟩:Addr)) (L.length+p+1) p 1=some ⟨gb,ob+p,none⟩:=by
  have hne:¬ L.length+p+1=p:=by omega
  rcases Nat.eq_zero_or_pos p with h0 | h0
  ·subst h0;simp [cutAt,hne,Addr.add]
  ·have h1:¬ p=0:=by omega
   simp [cutAt,hne,Addr.add,h1]
 rw [e1] at this
 exact this
theorem qml {w:World} {S:Nat→Prop} {A:Option Addr} (h:ql (bf .u8) 1 w S A (ak L)):∀ b ∈ L,b < 256:=fun b hb=>by
 have:=qh1 h (b:Int) (by unfold ak;exact List.mem_map_of_mem hb)
 simp [Lit.wf,IntKind.min,IntKind.max,IntKind.signed,IntKind.bits] at this
 omega
end
theorem q0j (L:List Nat) (gb ob c p g:Nat) (k:Nat)  (w:World) (hx:ql (bf .u8) 1 w (Lt w.heap.size) (some ⟨gb,ob,none⟩) (ak L)) (hc:L.length < c) (hp:p+k≤L.length) (hk:k≤8):qm Tryz.prog w (dw g #[.slice (some ⟨gb,ob+p,none⟩) ((ak (L.drop p)).length) (c - p)] 99 :: []) 88 #[.pointer (some ⟨g,0,none⟩),.int .i64 (k:Int)] (Unit) (fun x=>.int .i64 (at_ L p k)) (fun x=>dw g #[.slice (some ⟨gb,ob+(p+k),none⟩) ((ak (L.drop (p+k))).length) (c - (p+k))] 99 :: []) :=
 have hdl:(ak (L.drop p)).length=L.length - p:=by simp [ak]
 have hd:=qvy (p:=p) hx hc
 have hb8:∀ b ∈ L.drop p,b < 256:=fun b hb=>qml hx b (List.mem_of_mem_drop hb)
 Ql (fn:=Tryz.f88) (r:=fun (x:Unit)=>.int .i64 (at_ L p k)) (cs:=fun (x:Unit)=>#[.slice (some ⟨gb,ob+(p+k),none⟩) ((ak (L.drop (p+k))).length) (c - (p+k))]) (fs:=fun (x:Unit)=>[]) (t:=fun fr=>.l (Nat) (fun x=>[(0,undef,some (0,0)),(1,.int .i64 (k:Int),none),(5,.int .u64 ((num ((L.drop p).take x):Nat):Int),none),(7,.int .i64 (k:Int),none),(8,.int .i64 (x:Int),none)]) (fun x=>[]) [0] [] (fun x=>[fr]) (fun x=>x≤k) (fun x=>k - x) (0:Nat) (fun y1=>let k0:=(L.drop p).take y1; .s (.x (.int .u64 ((num k0 * 256:Nat):Int)) (.p (au (some ⟨gb,ob+p,none⟩)) (ay (some ⟨gb,ob+p,none⟩)+y1 * 1) #[.int .u8 ((ak (L.drop p)).getD y1 0)] (.x (.int .u64 (((L.drop p).getD y1 0:Nat):Int)) (.x (.int .u64 ((num k0 * 256+(L.drop p).getD y1 0:Nat):Int)) (.e (.int .i64 ((y1+1:Nat):Int)) .z))))) (.x (.slice (some ⟨gb,ob+(p+k),none⟩) ((ak (L.drop (p+k))).length) (c - (p+k))) (.x (.int .i64 (IntKind.i64.wrap ((num k0:Nat):Int))) .z)))) (X:=fun fr=>let k0:Option Addr:=some ⟨gb,ob+p,none⟩;let k3:=ak (L.drop p);let k1:Array Value:=#[.slice k0 (k3.length) (c - p)];let k6:=(ak (L.drop (p+k))).length;let k2:Array Value:=#[.slice (some ⟨gb,ob+(p+k),none⟩) k6 (c - (p+k))];let k4:=([some ⟨g,0,k1,.own 99⟩]:List (Option jv));let k5:Option Addr:=some ⟨g,0,none⟩;let k7:Value:=.slice k0 (k3.length) (c - p);xg w [fr] []∧((0:Nat)≤k)∧(([.pointer k5,.int .i64 (k:Int),.int .u64 0,.int .i64 (k:Int),.int .i64 0]:List Value)=[.pointer k5,.int .i64 (k:Int),.int .u64 ((num ((L.drop p).take (0:Nat)):Nat):Int),.int .i64 (k:Int),.int .i64 ((0:Nat):Int)]∧k4=[some ⟨g,0,k1,.own 99⟩]∧iw w [fr] [fr])∧true=true∧∀ (y1:Nat),let k8:=(L.drop p).take y1;let k9:Value:=.int .u64 (((L.drop p).getD y1 0:Nat):Int);let k10:=((num k8:Nat):Int);let k11:Value:=.int .u64 ((num k8 * 256:Nat):Int);let k12:=((num k8 * 256+(L.drop p).getD y1 0:Nat):Int);let k13:=decide ((y1:Int) < (k:Int));(y1≤k)→∀ τ3:Nat→Value,(k13=true→jd Tryz.prog w [fr] (do eqGuard BinOp.shl 95 (.tmp 11) (.const (.int .u64 8)) (.int .u64 k10) (.int .u64 8);Go.binOp BinOp.shl 95 (.int .u64 k10) (.int .u64 8)) k11∧jd Tryz.prog w [fr] (Instr.indexAt 28 k7 (.int .i64 (y1:Int))) (.pointer (some ⟨au k0,ay k0+y1 * 1,none⟩))∧o7 w [] (au k0) (ay k0+y1 * 1) #[.int .u8 (k3.getD y1 0)]∧jd Tryz.prog w [fr] (convert 5 95 (.int .u8 (k3.getD y1 0))) k9∧jd Tryz.prog w [fr] (do eqGuard BinOp.or 95 (.tmp 12) (.tmp 20) k11 k9;Go.binOp BinOp.or 95 k11 k9) (.int .u64 k12)∧(.int .i64 (IntKind.i64.wrap ((y1:Int)+1)):Value) = .int .i64 ((y1+1:Nat):Int)∧∃ x' : Nat,(x'≤k)∧(k - x' < k - y1)∧(([.pointer k5,.int .i64 (k:Int),.int .u64 k12,.int .i64 (k:Int),.int .i64 ((y1+1:Nat):Int)]:List Value)=[.pointer k5,.int .i64 (k:Int),.int .u64 ((num ((L.drop p).take x'):Nat):Int),.int .i64 (k:Int),.int .i64 (x' : Int)]∧k4=[some ⟨g,0,k1,.own 99⟩]∧iw w [fr] [fr])∧true=true)∧(k13=false→jd Tryz.prog w [fr] (Instr.sliceAt 28 k7 (some (.int .i64 (k:Int))) none none) (.slice (some ⟨gb,ob+(p+k),none⟩) k6 (c - (p+k)))∧jd Tryz.prog w [fr] (convert 95 2 (.int .u64 k10)) (.int .i64 (IntKind.i64.wrap k10))∧∃ x:Unit,(.int .i64 (IntKind.i64.wrap k10):Value) = .int .i64 (at_ L p k)∧(some ⟨g,0,k2,.own 99⟩:Option jv)=some ⟨g,0,k2,.own 99⟩∧iw w [fr] ([]++[fr]))) Tryz.func88 rfl (fun fr=>by kernel_rfl)
 (fun fr=>⟨(fun w _ _=>zh),(Nat.zero_le _),⟨rfl,rfl,(jm (.cons_cons _ (List.nil_sublist _)))⟩,rfl,fun y1 I2 τ3=>⟨fun h4=>have h4:(y1:Int) < (k:Int):=(by simpa using h4)
⟨(q6n (qm7 (by omega) hb8) rfl _ _),⟨(yw Tryz.underlying28 y9 Ny (Nat.le_refl _) hd rfl (by omega)),(qa0 Ny (Nat.le_refl _) hd (ou (by omega))),⟨(qvx Tryz.underlying5 Tryz.underlying95 (by rw [List.length_drop];omega) hb8),⟨(q8z (qm7 (by omega) hb8) (getD_lt hb8) _ _),⟨lg (by omega) (by omega) (by omega),⟨((y1+1):Nat),(by omega),(by omega),⟨(by have e:=qoc (l:=L.drop p) (i:=y1) (by rw [List.length_drop];omega);simp only [e]<;>rfl),rfl,(jm (.cons_cons _ (List.nil_sublist _)))⟩,rfl⟩⟩⟩⟩⟩⟩,
 fun h4=>have h4:¬ (y1:Int) < (k:Int):=(by simpa using h4)
⟨(qtu Tryz.underlying28 y9 hp hc),⟨(qtt Tryz.underlying95 Tryz.underlying2),⟨(),(by have e:y1=k:=(by omega);rw [e]<;>rfl),rfl,(oq [0] (by decide) rfl)⟩⟩⟩⟩⟩)
theorem V5 (L:List Nat) (gb ob c p g:Nat)  (w:World) (hx:ql (bf .u8) 1 w (Lt w.heap.size) (some ⟨gb,ob,none⟩) (ak L)) (hc:L.length < c) (hp:p+1≤L.length):qm Tryz.prog w (dw g #[.slice (some ⟨gb,ob+p,none⟩) ((ak (L.drop p)).length) (c - p)] 99 :: []) 63 #[.pointer (some ⟨g,0,none⟩)] (Unit) (fun x=>.int .i64 (at_ L p 1)) (fun x=>dw g #[.slice (some ⟨gb,ob+(p+1),none⟩) ((ak (L.drop (p+1))).length) (c - (p+1))] 99 :: []) :=
 Ql (fn:=Tryz.f63) (r:=fun (x:Unit)=>.int .i64 (at_ L p 1)) (cs:=fun (x:Unit)=>#[.slice (some ⟨gb,ob+(p+1),none⟩) ((ak (L.drop (p+1))).length) (c - (p+1))]) (fs:=fun (x:Unit)=>[]) (t:=fun fr=>.cD (some 0) (Unit) (fun x=>.int .i64 (at_ L p 1)) (fun x=>#[.slice (some ⟨gb,ob+(p+1),none⟩) ((ak (L.drop (p+1))).length) (c - (p+1))]) (fun x=>[fr]) (fun x1=>.z)) (X:=fun fr=>let k0:Array Value:=#[.slice (some ⟨gb,ob+(p+1),none⟩) ((ak (L.drop (p+1))).length) (c - (p+1))];qm Tryz.prog w (dw g #[.slice (some ⟨gb,ob+p,none⟩) ((ak (L.drop p)).length) (c - p)] 99 :: [fr]) 88 #[.pointer (some ⟨g,0,none⟩),.int .i64 1] (Unit) (fun x=>.int .i64 (at_ L p 1)) (fun x=>dw g k0 99 :: [fr])∧∀ x1:Unit,∃ x:Unit,(.int .i64 (at_ L p 1):Value) = .int .i64 (at_ L p 1)∧(some ⟨g,0,k0,.own 99⟩:Option jv)=some ⟨g,0,k0,.own 99⟩∧iw w [fr] ([]++[fr])) Tryz.func63 rfl (fun fr=>by kernel_rfl)
 (fun fr=>⟨(bn (oq [0,1] (by decide) rfl) (q0j L gb ob c p g 1 w hx hc (by omega) (by omega))),fun x1=>⟨(),rfl,rfl,(oq [0] (by decide) rfl)⟩⟩)
theorem H6 (L:List Nat) (gb ob c p g:Nat)  (w:World) (hx:ql (bf .u8) 1 w (Lt w.heap.size) (some ⟨gb,ob,none⟩) (ak L)) (hc:L.length < c) (hp:p+8≤L.length):qm Tryz.prog w (dw g #[.slice (some ⟨gb,ob+p,none⟩) ((ak (L.drop p)).length) (c - p)] 99 :: []) 64 #[.pointer (some ⟨g,0,none⟩)] (Unit) (fun x=>.int .i64 (at_ L p 8)) (fun x=>dw g #[.slice (some ⟨gb,ob+(p+8),none⟩) ((ak (L.drop (p+8))).length) (c - (p+8))] 99 :: []) :=
 Ql (fn:=Tryz.f64) (r:=fun (x:Unit)=>.int .i64 (at_ L p 8)) (cs:=fun (x:Unit)=>#[.slice (some ⟨gb,ob+(p+8),none⟩) ((ak (L.drop (p+8))).length) (c - (p+8))]) (fs:=fun (x:Unit)=>[]) (t:=fun fr=>.cD (some 0) (Unit) (fun x=>.int .i64 (at_ L p 8)) (fun x=>#[.slice (some ⟨gb,ob+(p+8),none⟩) ((ak (L.drop (p+8))).length) (c - (p+8))]) (fun x=>[fr]) (fun x1=>.z)) (X:=fun fr=>let k0:Array Value:=#[.slice (some ⟨gb,ob+(p+8),none⟩) ((ak (L.drop (p+8))).length) (c - (p+8))];qm Tryz.prog w (dw g #[.slice (some ⟨gb,ob+p,none⟩) ((ak (L.drop p)).length) (c - p)] 99 :: [fr]) 88 #[.pointer (some ⟨g,0,none⟩),.int .i64 8] (Unit) (fun x=>.int .i64 (at_ L p 8)) (fun x=>dw g k0 99 :: [fr])∧∀ x1:Unit,∃ x:Unit,(.int .i64 (at_ L p 8):Value) = .int .i64 (at_ L p 8)∧(some ⟨g,0,k0,.own 99⟩:Option jv)=some ⟨g,0,k0,.own 99⟩∧iw w [fr] ([]++[fr])) Tryz.func64 rfl (fun fr=>by kernel_rfl)
 (fun fr=>⟨(bn (oq [0,1] (by decide) rfl) (q0j L gb ob c p g 8 w hx hc (by omega) (by omega))),fun x1=>⟨(),rfl,rfl,(oq [0] (by decide) rfl)⟩⟩)
end Go.Proofs.YtbbjlfbemibfcaaGreat.row
end
