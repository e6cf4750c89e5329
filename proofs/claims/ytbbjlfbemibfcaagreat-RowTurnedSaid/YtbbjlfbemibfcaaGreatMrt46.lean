/-
  RowE, RowN
-/
import Derived.Test.YtbbjlfbemibfcaaGreatMrt21
import Derived.Test.YtbbjlfbemibfcaaGreatMrt22
import Derived.Test.YtbbjlfbemibfcaaGreatMrt43
import Derived.Test.YtbbjlfbemibfcaaGreatMrt18
import Derived.Test.YtbbjlfbemibfcaaGreatMrt04
import Derived.Test.YtbbjlfbemibfcaaGreatMrt44
set_option linter.unusedVariables false
set_option linter.unusedSimpArgs false
section
namespace Go.Proofs.YtbbjlfbemibfcaaGreat.row
open Go.RowKit Go.Proofs.YtbbjlfbemibfcaaGreat
set_option maxRecDepth 20000
open Go.Proofs.YtbbjlfbemibfcaaGreat.frame (be be_len be_lt u le4)
open Go.Proofs.YtbbjlfbemibfcaaGreat.book (St right)
open Go.Proofs.YtbbjlfbemibfcaaGreat.order (Or oz)
open Go.Proofs.YtbbjlfbemibfcaaGreat.cell (Ce Ex)
theorem gives_bring {P:Program} {w0:World} {D Q:List Fact} {f:FuncId} {args:Array Value} {α:Type} {r:α→Value} {fs:α→List Fact} (hB:Brings w0 D Q) (h:GivesD P w0 (Q++D) f args α r fs):GivesD P w0 D f args α r fs:=by
 intro w hw ha hs hp hy
 have hn:=hB w hw ha
 have hno:∀ f ∈ Q,∀ k,¬ f.S k:=fun f hf k hk=>by
  have:=hn.young f hf k hk
  rcases this.1 with h1 | h1
  ·exact h1
  ·omega
 have hany:∀ k,anyS (Q++D) k→anyS D k:=fun k ⟨f,hf,hk⟩=>by
  rcases List.mem_append.1 hf with hf | hf
  ·exact absurd hk (hno f hf k)
  ·exact ⟨f,hf,hk⟩
 refine (h w hw (All_iff.2 fun f hf=>?_) (fun f hf=>?_) ?_ (fun f hf k hk=>?_)).mono ?_
 ·rcases List.mem_append.1 hf with hf | hf
  ·exact All_iff.1 hn.all f hf
  ·exact All_iff.1 ha f hf
 ·rcases List.mem_append.1 hf with hf | hf
  ·exact hn.stable f hf
  ·exact hs f hf
 ·rw [List.pairwise_append]
  exact ⟨hn.apart,hp,fun f hf g _ k hk=>absurd hk (hno f hf k)⟩
 ·rcases List.mem_append.1 hf with hf | hf
  ·exact absurd hk (hno f hf k)
  ·exact hy f hf k hk
 ·rintro e w' ⟨x,rfl,hb,hfr,hm⟩
  exact ⟨x,rfl,hb,fun k h1 h2 h3=>hfr k h1 h2 (fun h4=>h3 (hany k h4)),⟨hm.all,fun f hf k hk=>⟨(hm.young f hf k hk).1.imp (hany k) id,(hm.young f hf k hk).2⟩,hm.apart,hm.stable⟩⟩
theorem wf_u32 {n:Nat} (h:n < 4294967296):(Lit.int .u32 (n:Int)).wf=true:=by
 simp [Lit.wf,IntKind.min,IntKind.max,IntKind.signed,IntKind.bits];omega
theorem elems_bys {w:World} {S:Nat→Prop} {A:Option Addr} {xs:List Int} (h:Elems (rdInt .u8) 1 w S A xs) (hw:∀ x ∈ xs,(Lit.int .u8 x).wf=true):IntsIn .u8 w S A xs :=
 ⟨hw,fun hn=>by
  obtain ⟨b,off,e,hS,hc⟩:=h hn
  refine ⟨b,off,e,hS,fun j hj=>?_⟩
  obtain ⟨cs,hl,hcell,hcs,hwf⟩:=hc j (xs.getD j 0) (at_getD hj)
  have:=hcell 0 _ (by rw [hcs];rfl)
  rw [Nat.mul_one,Nat.add_zero] at this
  exact this⟩
theorem elems_wf {w:World} {S:Nat→Prop} {A:Option Addr} {xs:List Int} (h:Elems (rdInt .u8) 1 w S A xs):∀ x ∈ xs,(Lit.int .u8 x).wf=true:=fun x hx=>by
 obtain ⟨j,hj,rfl⟩:=List.getElem_of_mem hx
 obtain ⟨b,off,e,hS,hc⟩:=h (by omega)
 obtain ⟨cs,hl,hcell,hcs,hwf⟩:=hc j xs[j] (List.getElem?_eq_getElem hj)
 exact hwf
section
variable {w0:World} {D:List Fact} {s:St} {v:Sv} {bs:List Nat} {A:Option Addr} {n c:Nat}
theorem own_bys {j:Nat} (h:D[j]?=some (ownF (rdInt .u8) 1 5 A n c (toI bs))):∀ w,Below w0.heap.size w0 w→All D w→Bys w w.heap.size A bs:=fun w _ ha=>by
 have hE:=(row_at h w ha).elems (S':=Lt w.heap.size) (keeps_int _) (by decide) (fun _ h=>h.elim) (fun _ _ h=>h)
 exact BysIn.bys (elems_bys hE (elems_wf hE)) (fun _ h=>h)
theorem g_sum (hx:∀ w,Below w0.heap.size w0 w→All D w→Bys w w.heap.size A bs) (hn:bs.length≤100000):Gives Tryz.prog w0 D 55 #[.slice A (toI bs).length c] (.int .u32 ((crc.more 0 bs:Nat):Int)):=fun w hw ha =>
 (crc.sum_is A _ c w.heap.size bs _ w (hx w hw ha) (by simp [toI]) (by simp [toI];omega) rfl).mono (by rintro e w' ⟨rfl,rfl⟩;exact ⟨rfl,Below.refl _ _⟩)
theorem g_rev {m:Nat} (h:m < 4294967296):Gives Tryz.prog w0 D 54 #[.int .u32 (m:Int)] (.int .u32 ((revN m:Nat):Int)):=fun w _ _=>l_rev m w h
theorem more_lt {w:World} {B:Nat} (h:Bys w B A bs):crc.more 0 bs < 4294967296:=crc.more_lt bs (by decide) (fun b hb=>Nat.lt_trans (h.lt b hb) (by decide))
theorem put_rev {m:Nat} (h:m < 4294967296):[]++putB 4 [((revN m:Nat):Int)]=le4 m:=by
 obtain ⟨h1,h2⟩:=rev_le4 h
 rw [← h1]
 have e:u ((revN m:Nat):Int)=revN m:=by unfold u;omega
 simp [putB,e]
theorem g_put4 (m:Option Addr × Nat) {k:Nat} (h:k < 4294967296):GivesD Tryz.prog w0 [ownF (rdInt .u32) 1 64 m.1 [((revN k:Nat):Int)].length m.2 [((revN k:Nat):Int)]] 53 #[.slice none 0 0,.int .i64 4,.slice m.1 [((revN k:Nat):Int)].length m.2] (Option Addr × Nat) (fun x=>.slice x.1 (toI (le4 k)).length x.2) (fun x=>[ownF (rdInt .u8) 1 5 x.1 (toI (le4 k)).length x.2 (toI (le4 k)),ownF (rdInt .u32) 1 64 m.1 [((revN k:Nat):Int)].length m.2 [((revN k:Nat):Int)]]):=by
 have:=g_put_uint32 (none,0) m [] [((revN k:Nat):Int)] 4 w0 ⟨by simp,by simp⟩ (by omega)
 simp only [put_rev h] at this
 exact gives_bring (own_nil (keeps_int _) 1 _) this
end
theorem l_sumof (A:Option Addr) (c:Nat) (bs:List Nat)  (w:World) (hx:Bys w w.heap.size A bs) (hn:bs.length≤100000):Calls Tryz.prog 22 #[.slice A (toI bs).length c] w fun e w' => ∃ x:Option Addr × Nat,e = .returned (.slice x.1 (toI (le4 (crc.more 0 bs))).length x.2)∧Below w.heap.size w w'∧News (fun _=>False) w.heap.size ([ownF (rdInt .u8) 1 5 x.1 (toI (le4 (crc.more 0 bs))).length x.2 (toI (le4 (crc.more 0 bs)))]) w' :=
 have hl:=more_lt hx
 calls_mem (fn:=Tryz.f22) (r:=fun (x:Option Addr × Nat)=>.slice x.1 (toI (le4 (crc.more 0 bs))).length x.2) (fs:=fun (x:Option Addr × Nat)=>[ownF (rdInt .u8) 1 5 x.1 (toI (le4 (crc.more 0 bs))).length x.2 (toI (le4 (crc.more 0 bs)))]) (t:=let k0:=((revN (crc.more 0 bs):Nat):Int);let k1:=toI (le4 (crc.more 0 bs)); .c (.int .u32 ((crc.more 0 bs:Nat):Int)) (.c (.int .u32 k0) (.w (Nat) none (fun x=>.slice (some ⟨x,0,none⟩) ([k0].length) ([k0].length)) (fun x=>[ownF (rdInt .u32) 1 64 (some ⟨x,0,none⟩) ([k0].length) ([k0].length) ([k0])]) (fun x1=>.cD none (Option Addr × Nat) (fun x=>.slice x.1 (k1.length) x.2) (fun x=>#[]) (fun x=>[ownF (rdInt .u8) 1 5 x.1 (k1.length) x.2 k1]) (fun x2=>.z))))) (X :=
 let k0:=((revN (crc.more 0 bs):Nat):Int);let k1:=toI (le4 (crc.more 0 bs));let k2:=((crc.more 0 bs:Nat):Int);Gives Tryz.prog w [] 55 #[.slice A ((toI bs).length) c] (.int .u32 k2)∧Gives Tryz.prog w [] 54 #[.int .u32 k2] (.int .u32 k0)∧StepM Tryz.prog w [] (Instr.buildSlice 119 1 #[(0,.int .u32 k0)]) (fun _=>False) (Nat) (fun x=>.slice (some ⟨x,0,none⟩) ([k0].length) ([k0].length)) (fun x=>[ownF (rdInt .u32) 1 64 (some ⟨x,0,none⟩) ([k0].length) ([k0].length) ([k0])])∧∀ x1:Nat,GivesD Tryz.prog w [ownF (rdInt .u32) 1 64 (some ⟨x1,0,none⟩) ([k0].length) ([k0].length) ([k0])] 53 #[.slice none 0 0,.int .i64 4,.slice (some ⟨x1,0,none⟩) ([k0].length) ([k0].length)] (Option Addr × Nat) (fun x=>.slice x.1 (k1.length) x.2) (fun x=>[ownF (rdInt .u8) 1 5 x.1 (k1.length) x.2 k1])∧∀ x2:Option Addr × Nat,∃ x:Option Addr × Nat,(.slice x2.1 (k1.length) x2.2:Value) = .slice x.1 k1.length x.2∧Turns w [ownF (rdInt .u8) 1 5 x2.1 (k1.length) x2.2 k1] ([ownF (rdInt .u8) 1 5 x.1 k1.length x.2 k1])) Tryz.func22 (by kernel_rfl)
 (⟨(g_sum (fun w hw _=>Ints.more (hx.below hw) hw.size) hn),⟨(g_rev hl),⟨(build_ints (xs:=[((revN (crc.more 0 bs):Nat):Int)]) (by kernel_rfl) (fun g=>by kernel_rfl) (wfs_cons (wf_u32 (rev_le4 hl).2) wfs_nil) (by simp only [List.length_cons,List.length_nil];omega)),fun x1=>⟨(gives_less (fun x=>(turns_sub (.cons_cons _ (List.nil_sublist _)))) (g_put4 ((some ⟨x1,0,none⟩),[((revN (crc.more 0 bs):Nat):Int)].length) hl)),fun x2=>⟨(x2.1,x2.2),rfl,(turns_idx [0] (by decide) rfl)⟩⟩⟩⟩⟩)
section
variable {w0:World} {D:List Fact} {s:St} {v:Sv} {bs:List Nat} {A:Option Addr} {n c:Nat}
theorem g_sumof (hx:∀ w,Below w0.heap.size w0 w→All D w→Bys w w.heap.size A bs) (hn:bs.length≤100000):GivesM Tryz.prog w0 D 22 #[.slice A (toI bs).length c] (Option Addr × Nat) (fun x=>.slice x.1 (toI (le4 (crc.more 0 bs))).length x.2) (fun x=>[ownF (rdInt .u8) 1 5 x.1 (toI (le4 (crc.more 0 bs))).length x.2 (toI (le4 (crc.more 0 bs)))]):=fun w hw ha=>l_sumof A c bs w (hx w hw ha) hn
theorem g_told (hs:∀ w,Below w0.heap.size w0 w→All D w→InS w (Lt w.heap.size) v s) (hr:Lens s):GivesM Tryz.prog w0 D 21 #[.agg (stc v s)] (Option Addr × Nat) (fun x=>.slice x.1 (toI (told s)).length x.2) (fun x=>[ownF (rdInt .u8) 1 5 x.1 (toI (told s)).length x.2 (toI (told s))]):=fun w hw ha=>l_told v s w (hs w hw ha) hr
theorem told_small (h:Lens s):(told s).length≤100000:=by have:=told_len h;have:=size_small h;omega
end
def whole (s:St):List Nat:=told s++le4 (crc.more 0 (told s))
def encV (s:St):List Nat × Int:=if right s=true then (whole s,0) else ([],1)
theorem enc_yes {s:St} (h:right s=true):encV s=(whole s,0):=if_pos h
theorem enc_no {s:St} (h:right s=false):encV s=([],1):=if_neg (by rw [h];decide)
def sizeV (s:St):Int:=if right s=true then (sizeN s:Int) else 0
theorem whole_toI (s:St):toI (told s)++toI (le4 (crc.more 0 (told s)))=toI (whole s):=by simp [whole,toI]
theorem whole_toI_len (s:St):(toI (told s)).length+(toI (le4 (crc.more 0 (told s)))).length=(toI (whole s)).length:=by simp [whole,toI]
theorem l_Size (v:Sv) (s:St)  (w:World) (h:InS w (Lt w.heap.size) v s):Calls Tryz.prog 12 #[.agg (stc v s)] w fun e w'=>e = .returned (.int .i64 (sizeV s))∧Below w.heap.size w w' :=
 calls_by (fn:=Tryz.f12) (r:=.int .i64 (sizeV s)) (t:=.cs (right s) (.c (.int .i64 ((sizeN s:Nat):Int)) .z) .z) (X :=
 let k0:=((sizeN s:Nat):Int); ∀ g0:Nat,Gives Tryz.prog w [] 18 #[.agg (stc v s)] (.bool (right s))∧((right s)=true→Gives Tryz.prog w [] 26 #[.int .i64 s.a,.int .i64 s.y,.int .i64 (s.os.length:Int)] (.int .i64 k0)∧((.int .i64 k0:Value) = .int .i64 (sizeV s)))∧((right s)=false→((.int .i64 0:Value) = .int .i64 (sizeV s)))) Tryz.func12 (by kernel_rfl)
 (fun g0=>⟨(book.i_right (book.all_lt h)),fun h1=>⟨(g_size (lens_of h1)),(by unfold sizeV;rw [if_pos h1]<;>rfl)⟩,
 fun h1=>(by unfold sizeV;rw [if_neg (by rw [h1];decide)]<;>rfl)⟩)
theorem l_Encode (v:Sv) (s:St)  (w:World) (h:InS w (Lt w.heap.size) v s):Calls Tryz.prog 10 #[.agg (stc v s)] w fun e w' => ∃ x:Option Addr × Nat,e = .returned (.tuple #[.slice x.1 (toI (encV s).1).length x.2,.int .i64 (encV s).2])∧Below w.heap.size w w'∧News (fun _=>False) w.heap.size ([ownF (rdInt .u8) 1 5 x.1 (toI (encV s).1).length x.2 (toI (encV s).1)]) w' :=
 calls_mem (fn:=Tryz.f10) (r:=fun (x:Option Addr × Nat)=>.tuple #[.slice x.1 (toI (encV s).1).length x.2,.int .i64 (encV s).2]) (fs:=fun (x:Option Addr × Nat)=>[ownF (rdInt .u8) 1 5 x.1 (toI (encV s).1).length x.2 (toI (encV s).1)]) (t:=let k0:=toI (le4 (crc.more 0 (told s)));let k1:=Option Addr × Nat;let k2:=toI (whole s);let k3:=toI (told s); .cs (right s) (.cm k1 (fun x=>.slice x.1 (k3.length) x.2) (fun x=>[ownF (rdInt .u8) 1 5 x.1 (k3.length) x.2 k3]) (fun x2=>.cm k1 (fun x=>.slice x.1 (k0.length) x.2) (fun x=>[ownF (rdInt .u8) 1 5 x.1 (k0.length) x.2 k0]) (fun x3=>.w k1 (some 1) (fun x=>.slice x.1 (k2.length) x.2) (fun x=>[ownF (rdInt .u8) 1 5 x.1 (k2.length) x.2 k2]) (fun x4=>.z)))) .z) (X :=
 let k0:=toI (le4 (crc.more 0 (told s)));let k4:=toI (told s);let k1:=k4.length;let k2:=toI (encV s).1;let k6:=toI (whole s);let k3:=k6.length;let k5:=Option Addr × Nat; ∀ g0:Nat,Gives Tryz.prog w [] 18 #[.agg (stc v s)] (.bool (right s))∧((right s)=true→GivesM Tryz.prog w [] 21 #[.agg (stc v s)] k5 (fun x=>.slice x.1 k1 x.2) (fun x=>[ownF (rdInt .u8) 1 5 x.1 k1 x.2 k4])∧∀ x2:Option Addr × Nat,GivesM Tryz.prog w [ownF (rdInt .u8) 1 5 x2.1 k1 x2.2 k4] 22 #[.slice x2.1 k1 x2.2] k5 (fun x=>.slice x.1 (k0.length) x.2) (fun x=>[ownF (rdInt .u8) 1 5 x.1 (k0.length) x.2 k0])∧∀ x3:Option Addr × Nat,StepM Tryz.prog w [ownF (rdInt .u8) 1 5 x3.1 (k0.length) x3.2 k0,ownF (rdInt .u8) 1 5 x2.1 k1 x2.2 k4] (Builtin.append_ #[28,28] 28 #[.slice x2.1 k1 x2.2,.slice x3.1 (k0.length) x3.2]) ((ownF (rdInt .u8) 1 5 x2.1 k1 x2.2 k4).S) k5 (fun x=>.slice x.1 k3 x.2) (fun x=>[ownF (rdInt .u8) 1 5 x.1 k3 x.2 k6])∧∀ x4:Option Addr × Nat,∃ x:Option Addr × Nat,(.tuple #[.slice x4.1 k3 x4.2,.int .i64 0]:Value) = .tuple #[.slice x.1 k2.length x.2,.int .i64 (encV s).2]∧Turns w [ownF (rdInt .u8) 1 5 x4.1 k3 x4.2 k6,ownF (rdInt .u8) 1 5 x3.1 (k0.length) x3.2 k0] ([ownF (rdInt .u8) 1 5 x.1 k2.length x.2 k2]))∧((right s)=false→∃ x:Option Addr × Nat,(.tuple #[.slice none 0 0,.int .i64 1]:Value) = .tuple #[.slice x.1 k2.length x.2,.int .i64 (encV s).2]∧Turns w [] ([ownF (rdInt .u8) 1 5 x.1 k2.length x.2 k2]))) Tryz.func10 (by kernel_rfl)
 (fun g0=>⟨(book.i_right (book.all_lt h)),fun h1=>⟨(g_told (book.all_lt h) (lens_of h1)),fun x2=>⟨(g_sumof (own_bys (j:=0) rfl) (told_small (lens_of h1))),fun x3=>⟨(step_to2 (whole_toI_len s) (whole_toI s) (append_core (keeps_int _) (leaf_int _) (by decide) Tryz.underlying28 info_u8 rfl (fun _ h=>h) (row_at (j:=1) rfl) (fun w _ ha=>⟨_,(row_at (j:=0) rfl w ha).reads (keeps_int _) (by decide)⟩) (by simp) (by have:=told_len (lens_of h1);have:=size_small (lens_of h1);have e4:(toI (le4 (crc.more 0 (told s)))).length=4:=(by simp [toI,le4]);have e5:(toI (told s)).length=(told s).length:=(by simp [toI]);have:maxLen=9223372036854775807:=rfl;unfold maxLen;omega) (by have:=told_len (lens_of h1);have:=size_small (lens_of h1);have e4:(toI (le4 (crc.more 0 (told s)))).length=4:=(by simp [toI,le4]);have e5:(toI (told s)).length=(told s).length:=(by simp [toI]);have:maxLen=9223372036854775807:=rfl;omega) (fun h=>h))),fun x4=>⟨(x4.1,x4.2),(by rw [enc_yes h1]<;>rfl),(by rw [enc_yes h1];exact (turns_idx [0] (by decide) rfl))⟩⟩⟩⟩,
 fun h1=>⟨(none,0),(by rw [enc_no h1]<;>rfl),(by rw [enc_no h1];exact book.turns_none (keeps_int _))⟩⟩)
end Go.Proofs.YtbbjlfbemibfcaaGreat.row
end
section
namespace Go.Proofs.YtbbjlfbemibfcaaGreat.row
open Go.RowKit Go.Proofs.YtbbjlfbemibfcaaGreat
set_option maxRecDepth 20000
open Go.Proofs.YtbbjlfbemibfcaaGreat.frame (be be_len be_lt u le4)
open Go.Proofs.YtbbjlfbemibfcaaGreat.book (St right)
open Go.Proofs.YtbbjlfbemibfcaaGreat.order (Or oz)
def num (l:List Nat):Nat:=l.foldl (fun a b=>a * 256+b) 0
def at_ (L:List Nat) (p k:Nat):Int:=IntKind.i64.wrap ((num ((L.drop p).take k):Nat):Int)
def ordAt (L:List Nat) (p:Nat):Or:=⟨at_ L p 8,at_ L (p+8) 1,at_ L (p+9) 1,at_ L (p+10) 1,at_ L (p+12) 8,at_ L (p+20) 8,at_ L (p+28) 8,at_ L (p+11) 1,at_ L (p+36) 8,at_ L (p+44) 8,at_ L (p+52) 8,decide (at_ L (p+60) 1=1)⟩
section
variable {P:Program} {w0:World} {D:List Fact} {l L:List Nat} {i k p c gb ob:Nat}
theorem num_next (h:i < l.length):num (l.take (i+1))=num (l.take i) * 256+l.getD i 0:=by
 unfold num
 rw [List.take_add_one,List.getElem?_eq_getElem h,List.foldl_append,List.getD_eq_getElem?_getD,List.getElem?_eq_getElem h]
 rfl
theorem getD_lt (h:∀ b ∈ l,b < 256):l.getD i 0 < 256:=by
 rw [List.getD_eq_getElem?_getD]
 cases e:l[i]? with
 |none=>simp
 |some b=>exact h b (List.mem_of_getElem? e)
theorem num_pow (h:∀ b ∈ l,b < 256):∀ i,num (l.take i) < 256 ^ i
 | 0=>by simp [num]
 |i+1=>by
  by_cases hi:i < l.length
  ·rw [num_next hi,Nat.pow_succ]
   have:=num_pow h i
   have:=getD_lt (i:=i) h
   omega
  ·rw [List.take_of_length_le (by omega),← List.take_of_length_le (l:=l) (i:=i) (by omega),Nat.pow_succ]
   have:=num_pow h i
   omega
theorem num_256 (hi:i < 8) (h:∀ b ∈ l,b < 256):num (l.take i) * 256 < 18446744073709551616:=by
 have h1:=num_pow h i
 have h2:256 ^ i≤256 ^ 7:=Nat.pow_le_pow_right (by decide) (by omega)
 omega
theorem conv_up {src dst:TypeId} (hs:P.underlying src=some (.int .u8)) (hd:P.underlying dst=some (.int .u64)) (hi:i < l.length) (h:∀ b ∈ l,b < 256) :
  Yields0 P w0 D (convert src dst (.int .u8 ((toI l).getD i 0))) (.int .u64 ((l.getD i 0:Nat):Int)):=fun w _ _=>by
 have hk' : P.intKind dst = .u64:=by simp [Program.intKind,hd]
 have e:(toI l).getD i 0=((l.getD i 0:Nat):Int):=by
  rw [List.getD_eq_getElem?_getD,List.getD_eq_getElem?_getD];unfold toI;rw [List.getElem?_map,List.getElem?_eq_getElem hi];rfl
 have:=getD_lt (i:=i) h
 rw [run_convert_int w src dst .u8 _ (by rw [hs];rfl) (by rw [hk'];exact hd),hk',e,IntKind.wrap_u64]
 congr 2
 omega
theorem conv_i64 {src dst:TypeId} {x:Int} (hs:P.underlying src=some (.int .u64)) (hd:P.underlying dst=some (.int .i64)):Yields0 P w0 D (convert src dst (.int .u64 x)) (.int .i64 (IntKind.i64.wrap x)):=fun w _ _=>by
 have hk' : P.intKind dst = .i64:=by simp [Program.intKind,hd]
 rw [run_convert_int w src dst .u64 _ (by rw [hs];rfl) (by rw [hk'];exact hd),hk']
theorem y_shl64 {T:TypeId} {a:Nat} {q:Int} (h:a * 256 < 18446744073709551616) (hq:q=8) (ox oy:Operand):Yields0 P w0 D (do eqGuard .shl T ox oy (.int .u64 (a:Int)) (.int .u64 q);Go.binOp .shl T (.int .u64 (a:Int)) (.int .u64 q)) (.int .u64 ((a * 256:Nat):Int)):=fun w _ _=>by
 subst hq
 have e:(Op.shift .shl .u64 (a:Int) .u64 8)=pure (.int .u64 ((a * 256:Nat):Int)):=by
  have:=shift_shl_u64 (x:=(a:Int)) (yk:=.u64) (y:=8) (by omega) (by omega)
  rw [this,IntKind.wrap_u64]
  congr 2
  have e8:(2:Int) ^ (8:Int).toNat=256:=by decide
  rw [e8];omega
 show (do eqGuard .shl T ox oy _ _;Op.shift .shl .u64 (a:Int) .u64 8).run P w=_
 rw [e];rfl
theorem y_or64 {T:TypeId} {a b:Nat} (h:a * 256 < 18446744073709551616) (hb:b < 256) (ox oy:Operand):Yields0 P w0 D (do eqGuard .or T ox oy (.int .u64 ((a * 256:Nat):Int)) (.int .u64 (b:Int));Go.binOp .or T (.int .u64 ((a * 256:Nat):Int)) (.int .u64 (b:Int))) (.int .u64 ((a * 256+b:Nat):Int)):=fun w _ _=>by
 show (do eqGuard .or T ox oy _ _;pure (Value.int .u64 (bits .or .u64 ((a * 256:Nat):Int) (b:Int)))).run P w=_
 have e:a * 256 ||| b=a * 256+b:=by
  have:=or_two (k:=8) (x:=a) (y:=b) (by omega)
  rw [Nat.or_comm,Nat.mul_comm]
  rw [show 256 * a=2 ^ 8 * a by omega,this]
 rw [u64_or_nat _ b h (by omega),e];rfl
theorem toI_drop:toI (L.drop p)=(toI L).drop p:=by simp [toI]
theorem cut_rest {t e:TypeId} {bytes:Nat} {z:Value} (ht:P.underlying t=some (.slice e)) (hinfo:(P.info? e).map (fun i=>(i.zero,i.size,i.bytes))=some (some z,1,bytes)) (hp:p+k≤L.length) (hc:L.length < c) :
  Yields0 P w0 D (Instr.sliceAt t (.slice (some ⟨gb,ob+p,none⟩) (toI (L.drop p)).length (c - p)) (some (.int .i64 (k:Int))) none none) (.slice (some ⟨gb,ob+(p+k),none⟩) (toI (L.drop (p+k))).length (c - (p+k))):=fun w hw ha=>by
 have h:=book.slice_from (P:=P) (A:=some ⟨gb,ob+p,none⟩) (n:=(toI (L.drop p)).length) (c:=c - p) (k:=k) ht hinfo (by simp [toI];omega) w
 rw [← List.length_drop] at h
 have e1:cutAt (some ⟨gb,ob+p,none⟩) (c - p) k 1=some ⟨gb,ob+(p+k),none⟩:=by
  have hne:¬ c - p=k:=by omega
  rcases Nat.eq_zero_or_pos k with h0 | h0
  ·subst h0;simp [cutAt,hne,Addr.add]
  ·have h1:¬ k=0:=by omega
   simp [cutAt,hne,Addr.add,h1,Nat.add_assoc]
 have e2:(toI (L.drop p)).drop k=toI (L.drop (p+k)):=by simp [toI,List.drop_drop,Nat.add_comm]
 have e3:c - p - k=c - (p+k):=by omega
 rw [e1,e2,e3] at h
 exact h
theorem rest_at {w:World} (h:Elems (rdInt .u8) 1 w (Lt w.heap.size) (some ⟨gb,ob,none⟩) (toI L)) (hc:L.length < c):Elems (rdInt .u8) 1 w (Lt w.heap.size) (some ⟨gb,ob+p,none⟩) (toI (L.drop p)):=by
 rw [toI_drop]
 have:=h.cut p (L.length+p+1) (by simp [toI];omega)
 have e1:cutAt (some (⟨gb,ob,none⟩:Addr)) (L.length+p+1) p 1=some ⟨gb,ob+p,none⟩:=by
  have hne:¬ L.length+p+1=p:=by omega
  rcases Nat.eq_zero_or_pos p with h0 | h0
  ·subst h0;simp [cutAt,hne,Addr.add]
  ·have h1:¬ p=0:=by omega
   simp [cutAt,hne,Addr.add,h1]
 rw [e1] at this
 exact this
theorem toI_lt {w:World} {S:Nat→Prop} {A:Option Addr} (h:Elems (rdInt .u8) 1 w S A (toI L)):∀ b ∈ L,b < 256:=fun b hb=>by
 have:=elems_wf h (b:Int) (by unfold toI;exact List.mem_map_of_mem hb)
 simp [Lit.wf,IntKind.min,IntKind.max,IntKind.signed,IntKind.bits] at this
 omega
end
theorem l_next (L:List Nat) (gb ob c p g:Nat) (k:Nat)  (w:World) (hx:Elems (rdInt .u8) 1 w (Lt w.heap.size) (some ⟨gb,ob,none⟩) (toI L)) (hc:L.length < c) (hp:p+k≤L.length) (hk:k≤8):GivesD Tryz.prog w (cellsF g #[.slice (some ⟨gb,ob+p,none⟩) ((toI (L.drop p)).length) (c - p)] 99 :: []) 88 #[.pointer (some ⟨g,0,none⟩),.int .i64 (k:Int)] (Unit) (fun x=>.int .i64 (at_ L p k)) (fun x=>cellsF g #[.slice (some ⟨gb,ob+(p+k),none⟩) ((toI (L.drop (p+k))).length) (c - (p+k))] 99 :: []) :=
 have hdl:(toI (L.drop p)).length=L.length - p:=by simp [toI]
 have hd:=rest_at (p:=p) hx hc
 have hb8:∀ b ∈ L.drop p,b < 256:=fun b hb=>toI_lt hx b (List.mem_of_mem_drop hb)
 gives_d (fn:=Tryz.f88) (r:=fun (x:Unit)=>.int .i64 (at_ L p k)) (cs:=fun (x:Unit)=>#[.slice (some ⟨gb,ob+(p+k),none⟩) ((toI (L.drop (p+k))).length) (c - (p+k))]) (fs:=fun (x:Unit)=>[]) (t:=fun fr=>.l (Nat) (fun x=>[(0,undef,some (0,0)),(1,.int .i64 (k:Int),none),(5,.int .u64 ((num ((L.drop p).take x):Nat):Int),none),(7,.int .i64 (k:Int),none),(8,.int .i64 (x:Int),none)]) (fun x=>[]) [0] [] (fun x=>[fr]) (fun x=>x≤k) (fun x=>k - x) (0:Nat) (fun y1=>let k0:=(L.drop p).take y1; .s (.x (.int .u64 ((num k0 * 256:Nat):Int)) (.p (blkA (some ⟨gb,ob+p,none⟩)) (offA (some ⟨gb,ob+p,none⟩)+y1 * 1) #[.int .u8 ((toI (L.drop p)).getD y1 0)] (.x (.int .u64 (((L.drop p).getD y1 0:Nat):Int)) (.x (.int .u64 ((num k0 * 256+(L.drop p).getD y1 0:Nat):Int)) (.e (.int .i64 ((y1+1:Nat):Int)) .z))))) (.x (.slice (some ⟨gb,ob+(p+k),none⟩) ((toI (L.drop (p+k))).length) (c - (p+k))) (.x (.int .i64 (IntKind.i64.wrap ((num k0:Nat):Int))) .z)))) (X:=fun fr=>let k0:Option Addr:=some ⟨gb,ob+p,none⟩;let k3:=toI (L.drop p);let k1:Array Value:=#[.slice k0 (k3.length) (c - p)];let k6:=(toI (L.drop (p+k))).length;let k2:Array Value:=#[.slice (some ⟨gb,ob+(p+k),none⟩) k6 (c - (p+k))];let k4:=([some ⟨g,0,k1,.own 99⟩]:List (Option Blk));let k5:Option Addr:=some ⟨g,0,none⟩;let k7:Value:=.slice k0 (k3.length) (c - p);Brings w [fr] []∧((0:Nat)≤k)∧(([.pointer k5,.int .i64 (k:Int),.int .u64 0,.int .i64 (k:Int),.int .i64 0]:List Value)=[.pointer k5,.int .i64 (k:Int),.int .u64 ((num ((L.drop p).take (0:Nat)):Nat):Int),.int .i64 (k:Int),.int .i64 ((0:Nat):Int)]∧k4=[some ⟨g,0,k1,.own 99⟩]∧Turns w [fr] [fr])∧true=true∧∀ (y1:Nat),let k8:=(L.drop p).take y1;let k9:Value:=.int .u64 (((L.drop p).getD y1 0:Nat):Int);let k10:=((num k8:Nat):Int);let k11:Value:=.int .u64 ((num k8 * 256:Nat):Int);let k12:=((num k8 * 256+(L.drop p).getD y1 0:Nat):Int);let k13:=decide ((y1:Int) < (k:Int));(y1≤k)→∀ τ3:Nat→Value,(k13=true→Yields0 Tryz.prog w [fr] (do eqGuard BinOp.shl 95 (.tmp 11) (.const (.int .u64 8)) (.int .u64 k10) (.int .u64 8);Go.binOp BinOp.shl 95 (.int .u64 k10) (.int .u64 8)) k11∧Yields0 Tryz.prog w [fr] (Instr.indexAt 28 k7 (.int .i64 (y1:Int))) (.pointer (some ⟨blkA k0,offA k0+y1 * 1,none⟩))∧Reads0 w [] (blkA k0) (offA k0+y1 * 1) #[.int .u8 (k3.getD y1 0)]∧Yields0 Tryz.prog w [fr] (convert 5 95 (.int .u8 (k3.getD y1 0))) k9∧Yields0 Tryz.prog w [fr] (do eqGuard BinOp.or 95 (.tmp 12) (.tmp 20) k11 k9;Go.binOp BinOp.or 95 k11 k9) (.int .u64 k12)∧(.int .i64 (IntKind.i64.wrap ((y1:Int)+1)):Value) = .int .i64 ((y1+1:Nat):Int)∧∃ x' : Nat,(x'≤k)∧(k - x' < k - y1)∧(([.pointer k5,.int .i64 (k:Int),.int .u64 k12,.int .i64 (k:Int),.int .i64 ((y1+1:Nat):Int)]:List Value)=[.pointer k5,.int .i64 (k:Int),.int .u64 ((num ((L.drop p).take x'):Nat):Int),.int .i64 (k:Int),.int .i64 (x' : Int)]∧k4=[some ⟨g,0,k1,.own 99⟩]∧Turns w [fr] [fr])∧true=true)∧(k13=false→Yields0 Tryz.prog w [fr] (Instr.sliceAt 28 k7 (some (.int .i64 (k:Int))) none none) (.slice (some ⟨gb,ob+(p+k),none⟩) k6 (c - (p+k)))∧Yields0 Tryz.prog w [fr] (convert 95 2 (.int .u64 k10)) (.int .i64 (IntKind.i64.wrap k10))∧∃ x:Unit,(.int .i64 (IntKind.i64.wrap k10):Value) = .int .i64 (at_ L p k)∧(some ⟨g,0,k2,.own 99⟩:Option Blk)=some ⟨g,0,k2,.own 99⟩∧Turns w [fr] ([]++[fr]))) Tryz.func88 rfl (fun fr=>by kernel_rfl)
 (fun fr=>⟨(fun w _ _=>news_nil),(Nat.zero_le _),⟨rfl,rfl,(turns_sub (.cons_cons _ (List.nil_sublist _)))⟩,rfl,fun y1 I2 τ3=>⟨fun h4=>have h4:(y1:Int) < (k:Int):=(by simpa using h4)
⟨(y_shl64 (num_256 (by omega) hb8) rfl _ _),⟨(low_index Tryz.underlying28 info_u8 byte_cells (Nat.le_refl _) hd rfl (by omega)),(low_reads byte_cells (Nat.le_refl _) hd (at_getD (by omega))),⟨(conv_up Tryz.underlying5 Tryz.underlying95 (by rw [List.length_drop];omega) hb8),⟨(y_or64 (num_256 (by omega) hb8) (getD_lt hb8) _ _),⟨wrap_is (by omega) (by omega) (by omega),⟨((y1+1):Nat),(by omega),(by omega),⟨(by have e:=num_next (l:=L.drop p) (i:=y1) (by rw [List.length_drop];omega);simp only [e]<;>rfl),rfl,(turns_sub (.cons_cons _ (List.nil_sublist _)))⟩,rfl⟩⟩⟩⟩⟩⟩,
 fun h4=>have h4:¬ (y1:Int) < (k:Int):=(by simpa using h4)
⟨(cut_rest Tryz.underlying28 info_u8 hp hc),⟨(conv_i64 Tryz.underlying95 Tryz.underlying2),⟨(),(by have e:y1=k:=(by omega);rw [e]<;>rfl),rfl,(turns_idx [0] (by decide) rfl)⟩⟩⟩⟩⟩)
theorem l_small (L:List Nat) (gb ob c p g:Nat)  (w:World) (hx:Elems (rdInt .u8) 1 w (Lt w.heap.size) (some ⟨gb,ob,none⟩) (toI L)) (hc:L.length < c) (hp:p+1≤L.length):GivesD Tryz.prog w (cellsF g #[.slice (some ⟨gb,ob+p,none⟩) ((toI (L.drop p)).length) (c - p)] 99 :: []) 63 #[.pointer (some ⟨g,0,none⟩)] (Unit) (fun x=>.int .i64 (at_ L p 1)) (fun x=>cellsF g #[.slice (some ⟨gb,ob+(p+1),none⟩) ((toI (L.drop (p+1))).length) (c - (p+1))] 99 :: []) :=
 gives_d (fn:=Tryz.f63) (r:=fun (x:Unit)=>.int .i64 (at_ L p 1)) (cs:=fun (x:Unit)=>#[.slice (some ⟨gb,ob+(p+1),none⟩) ((toI (L.drop (p+1))).length) (c - (p+1))]) (fs:=fun (x:Unit)=>[]) (t:=fun fr=>.cD (some 0) (Unit) (fun x=>.int .i64 (at_ L p 1)) (fun x=>#[.slice (some ⟨gb,ob+(p+1),none⟩) ((toI (L.drop (p+1))).length) (c - (p+1))]) (fun x=>[fr]) (fun x1=>.z)) (X:=fun fr=>let k0:Array Value:=#[.slice (some ⟨gb,ob+(p+1),none⟩) ((toI (L.drop (p+1))).length) (c - (p+1))];GivesD Tryz.prog w (cellsF g #[.slice (some ⟨gb,ob+p,none⟩) ((toI (L.drop p)).length) (c - p)] 99 :: [fr]) 88 #[.pointer (some ⟨g,0,none⟩),.int .i64 1] (Unit) (fun x=>.int .i64 (at_ L p 1)) (fun x=>cellsF g k0 99 :: [fr])∧∀ x1:Unit,∃ x:Unit,(.int .i64 (at_ L p 1):Value) = .int .i64 (at_ L p 1)∧(some ⟨g,0,k0,.own 99⟩:Option Blk)=some ⟨g,0,k0,.own 99⟩∧Turns w [fr] ([]++[fr])) Tryz.func63 rfl (fun fr=>by kernel_rfl)
 (fun fr=>⟨(gives_turn (turns_idx [0,1] (by decide) rfl) (l_next L gb ob c p g 1 w hx hc (by omega) (by omega))),fun x1=>⟨(),rfl,rfl,(turns_idx [0] (by decide) rfl)⟩⟩)
theorem l_great (L:List Nat) (gb ob c p g:Nat)  (w:World) (hx:Elems (rdInt .u8) 1 w (Lt w.heap.size) (some ⟨gb,ob,none⟩) (toI L)) (hc:L.length < c) (hp:p+8≤L.length):GivesD Tryz.prog w (cellsF g #[.slice (some ⟨gb,ob+p,none⟩) ((toI (L.drop p)).length) (c - p)] 99 :: []) 64 #[.pointer (some ⟨g,0,none⟩)] (Unit) (fun x=>.int .i64 (at_ L p 8)) (fun x=>cellsF g #[.slice (some ⟨gb,ob+(p+8),none⟩) ((toI (L.drop (p+8))).length) (c - (p+8))] 99 :: []) :=
 gives_d (fn:=Tryz.f64) (r:=fun (x:Unit)=>.int .i64 (at_ L p 8)) (cs:=fun (x:Unit)=>#[.slice (some ⟨gb,ob+(p+8),none⟩) ((toI (L.drop (p+8))).length) (c - (p+8))]) (fs:=fun (x:Unit)=>[]) (t:=fun fr=>.cD (some 0) (Unit) (fun x=>.int .i64 (at_ L p 8)) (fun x=>#[.slice (some ⟨gb,ob+(p+8),none⟩) ((toI (L.drop (p+8))).length) (c - (p+8))]) (fun x=>[fr]) (fun x1=>.z)) (X:=fun fr=>let k0:Array Value:=#[.slice (some ⟨gb,ob+(p+8),none⟩) ((toI (L.drop (p+8))).length) (c - (p+8))];GivesD Tryz.prog w (cellsF g #[.slice (some ⟨gb,ob+p,none⟩) ((toI (L.drop p)).length) (c - p)] 99 :: [fr]) 88 #[.pointer (some ⟨g,0,none⟩),.int .i64 8] (Unit) (fun x=>.int .i64 (at_ L p 8)) (fun x=>cellsF g k0 99 :: [fr])∧∀ x1:Unit,∃ x:Unit,(.int .i64 (at_ L p 8):Value) = .int .i64 (at_ L p 8)∧(some ⟨g,0,k0,.own 99⟩:Option Blk)=some ⟨g,0,k0,.own 99⟩∧Turns w [fr] ([]++[fr])) Tryz.func64 rfl (fun fr=>by kernel_rfl)
 (fun fr=>⟨(gives_turn (turns_idx [0,1] (by decide) rfl) (l_next L gb ob c p g 8 w hx hc (by omega) (by omega))),fun x1=>⟨(),rfl,rfl,(turns_idx [0] (by decide) rfl)⟩⟩)
end Go.Proofs.YtbbjlfbemibfcaaGreat.row
end
