/-
  RowE
-/
import Derived.Test.YtalhdalinpdanabGreatMrd20
import Derived.Test.YtalhdalinpdanabGreatMrd21
import Derived.Test.YtalhdalinpdanabGreatMrd42
import Derived.Test.YtalhdalinpdanabGreatMrd17
set_option linter.unusedVariables false
set_option linter.unusedSimpArgs false
namespace Go.Proofs.YtalhdalinpdanabGreat.row
open Go.RowKit Go.Proofs.YtalhdalinpdanabGreat
set_option maxRecDepth 20000
open Go.Proofs.YtalhdalinpdanabGreat.frame (be be_len be_lt u le4)
open Go.Proofs.YtalhdalinpdanabGreat.book (St right)
open Go.Proofs.YtalhdalinpdanabGreat.order (Or oz)
open Go.Proofs.YtalhdalinpdanabGreat.cell (Ce Ex)
theorem gives_bring {P:Program} {w0:World} {D Q:List Fact} {f:FuncId} {args:Array Value} {α:Type} {r:α→Value} {fs:α→List Fact} (hB:Brings w0 D Q) (h:GivesD P w0 (Q++D) f args α r fs):GivesD P w0 D f args α r fs:=by
 intro w hw ha hs hp hy
 have hn:=hB w hw ha
 have hno:∀ f ∈ Q,∀ k,¬ f.S k:=fun f hf k hk=>by
  have:=hn.young f hf k hk
  rcases this.1 with h1 | h1
  ·exact h1
  ·omega
 have hany:∀ k,anyS (Q++D) k→anyS D k:=fun k ⟨f,hf,hk⟩=>by
  rcases List.mem_append.1 hf with hf | hf
  ·exact absurd hk (hno f hf k)
  ·exact ⟨f,hf,hk⟩
 refine (h w hw (All_iff.2 fun f hf=>?_) (fun f hf=>?_) ?_ (fun f hf k hk=>?_)).mono ?_
 ·rcases List.mem_append.1 hf with hf | hf
  ·exact All_iff.1 hn.all f hf
  ·exact All_iff.1 ha f hf
 ·rcases List.mem_append.1 hf with hf | hf
  ·exact hn.stable f hf
  ·exact hs f hf
 ·rw [List.pairwise_append]
  exact ⟨hn.apart,hp,fun f hf g _ k hk=>absurd hk (hno f hf k)⟩
 ·rcases List.mem_append.1 hf with hf | hf
  ·exact absurd hk (hno f hf k)
  ·exact hy f hf k hk
 ·rintro e w' ⟨x,rfl,hb,hfr,hm⟩
  exact ⟨x,rfl,hb,fun k h1 h2 h3=>hfr k h1 h2 (fun h4=>h3 (hany k h4)),⟨hm.all,fun f hf k hk=>⟨(hm.young f hf k hk).1.imp (hany k) id,(hm.young f hf k hk).2⟩,hm.apart,hm.stable⟩⟩
theorem wf_u32 {n:Nat} (h:n < 4294967296):(Lit.int .u32 (n:Int)).wf=true:=by
 simp [Lit.wf,IntKind.min,IntKind.max,IntKind.signed,IntKind.bits];omega
theorem elems_bys {w:World} {S:Nat→Prop} {A:Option Addr} {xs:List Int} (h:Elems (rdInt .u8) 1 w S A xs) (hw:∀ x ∈ xs,(Lit.int .u8 x).wf=true):IntsIn .u8 w S A xs :=
 ⟨hw,fun hn=>by
  obtain ⟨b,off,e,hS,hc⟩:=h hn
  refine ⟨b,off,e,hS,fun j hj=>?_⟩
  obtain ⟨cs,hl,hcell,hcs,hwf⟩:=hc j (xs.getD j 0) (at_getD hj)
  have:=hcell 0 _ (by rw [hcs];rfl)
  rw [Nat.mul_one,Nat.add_zero] at this
  exact this⟩
theorem elems_wf {w:World} {S:Nat→Prop} {A:Option Addr} {xs:List Int} (h:Elems (rdInt .u8) 1 w S A xs):∀ x ∈ xs,(Lit.int .u8 x).wf=true:=fun x hx=>by
 obtain ⟨j,hj,rfl⟩:=List.getElem_of_mem hx
 obtain ⟨b,off,e,hS,hc⟩:=h (by omega)
 obtain ⟨cs,hl,hcell,hcs,hwf⟩:=hc j xs[j] (List.getElem?_eq_getElem hj)
 exact hwf
section
variable {w0:World} {D:List Fact} {s:St} {v:Sv} {bs:List Nat} {A:Option Addr} {n c:Nat}
theorem own_bys {j:Nat} (h:D[j]?=some (ownF (rdInt .u8) 1 5 A n c (toI bs))):∀ w,Below w0.heap.size w0 w→All D w→Bys w w.heap.size A bs:=fun w _ ha=>by
 have hE:=(row_at h w ha).elems (S':=Lt w.heap.size) (keeps_int _) (by decide) (fun _ h=>h.elim) (fun _ _ h=>h)
 exact BysIn.bys (elems_bys hE (elems_wf hE)) (fun _ h=>h)
theorem g_sum (hx:∀ w,Below w0.heap.size w0 w→All D w→Bys w w.heap.size A bs) (hn:bs.length≤100000):Gives Tryz.prog w0 D 55 #[.slice A (toI bs).length c] (.int .u32 ((crc.more 0 bs:Nat):Int)):=fun w hw ha =>
 (crc.sum_is A _ c w.heap.size bs _ w (hx w hw ha) (by simp [toI]) (by simp [toI];omega) rfl).mono (by rintro e w' ⟨rfl,rfl⟩;exact ⟨rfl,Below.refl _ _⟩)
theorem g_rev {m:Nat} (h:m < 4294967296):Gives Tryz.prog w0 D 54 #[.int .u32 (m:Int)] (.int .u32 ((revN m:Nat):Int)):=fun w _ _=>l_rev m w h
theorem more_lt {w:World} {B:Nat} (h:Bys w B A bs):crc.more 0 bs < 4294967296:=crc.more_lt bs (by decide) (fun b hb=>Nat.lt_trans (h.lt b hb) (by decide))
theorem put_rev {m:Nat} (h:m < 4294967296):[]++putB 4 [((revN m:Nat):Int)]=le4 m:=by
 obtain ⟨h1,h2⟩:=rev_le4 h
 rw [← h1]
 have e:u ((revN m:Nat):Int)=revN m:=by unfold u;omega
 simp [putB,e]
theorem g_put4 (m:Option Addr × Nat) {k:Nat} (h:k < 4294967296):GivesD Tryz.prog w0 [ownF (rdInt .u32) 1 64 m.1 [((revN k:Nat):Int)].length m.2 [((revN k:Nat):Int)]] 53 #[.slice none 0 0,.int .i64 4,.slice m.1 [((revN k:Nat):Int)].length m.2] (Option Addr × Nat) (fun x=>.slice x.1 (toI (le4 k)).length x.2) (fun x=>[ownF (rdInt .u8) 1 5 x.1 (toI (le4 k)).length x.2 (toI (le4 k)),ownF (rdInt .u32) 1 64 m.1 [((revN k:Nat):Int)].length m.2 [((revN k:Nat):Int)]]):=by
 have:=g_put_uint32 (none,0) m [] [((revN k:Nat):Int)] 4 w0 ⟨by simp,by simp⟩ (by omega)
 simp only [put_rev h] at this
 exact gives_bring (own_nil (keeps_int _) 1 _) this
end
theorem l_sumof (A:Option Addr) (c:Nat) (bs:List Nat)  (w:World) (hx:Bys w w.heap.size A bs) (hn:bs.length≤100000):Calls Tryz.prog 22 #[.slice A (toI bs).length c] w fun e w' => ∃ x:Option Addr × Nat,e = .returned (.slice x.1 (toI (le4 (crc.more 0 bs))).length x.2)∧Below w.heap.size w w'∧News (fun _=>False) w.heap.size ([ownF (rdInt .u8) 1 5 x.1 (toI (le4 (crc.more 0 bs))).length x.2 (toI (le4 (crc.more 0 bs)))]) w' :=
 have hl:=more_lt hx
 calls_mem (fn:=Tryz.f22) (r:=fun (x:Option Addr × Nat)=>.slice x.1 (toI (le4 (crc.more 0 bs))).length x.2) (fs:=fun (x:Option Addr × Nat)=>[ownF (rdInt .u8) 1 5 x.1 (toI (le4 (crc.more 0 bs))).length x.2 (toI (le4 (crc.more 0 bs)))]) (t:=let k0:=((revN (crc.more 0 bs):Nat):Int);let k1:=toI (le4 (crc.more 0 bs)); .c (.int .u32 ((crc.more 0 bs:Nat):Int)) (.c (.int .u32 k0) (.w (Nat) none (fun x=>.slice (some ⟨x,0,none⟩) ([k0].length) ([k0].length)) (fun x=>[ownF (rdInt .u32) 1 64 (some ⟨x,0,none⟩) ([k0].length) ([k0].length) ([k0])]) (fun x1=>.cD none (Option Addr × Nat) (fun x=>.slice x.1 (k1.length) x.2) (fun x=>#[]) (fun x=>[ownF (rdInt .u8) 1 5 x.1 (k1.length) x.2 k1]) (fun x2=>.z))))) (X :=
 let k0:=((revN (crc.more 0 bs):Nat):Int);let k1:=toI (le4 (crc.more 0 bs));let k2:=((crc.more 0 bs:Nat):Int);Gives Tryz.prog w [] 55 #[.slice A ((toI bs).length) c] (.int .u32 k2)∧Gives Tryz.prog w [] 54 #[.int .u32 k2] (.int .u32 k0)∧StepM Tryz.prog w [] (Instr.buildSlice 119 1 #[(0,.int .u32 k0)]) (fun _=>False) (Nat) (fun x=>.slice (some ⟨x,0,none⟩) ([k0].length) ([k0].length)) (fun x=>[ownF (rdInt .u32) 1 64 (some ⟨x,0,none⟩) ([k0].length) ([k0].length) ([k0])])∧∀ x1:Nat,GivesD Tryz.prog w [ownF (rdInt .u32) 1 64 (some ⟨x1,0,none⟩) ([k0].length) ([k0].length) ([k0])] 53 #[.slice none 0 0,.int .i64 4,.slice (some ⟨x1,0,none⟩) ([k0].length) ([k0].length)] (Option Addr × Nat) (fun x=>.slice x.1 (k1.length) x.2) (fun x=>[ownF (rdInt .u8) 1 5 x.1 (k1.length) x.2 k1])∧∀ x2:Option Addr × Nat,∃ x:Option Addr × Nat,(.slice x2.1 (k1.length) x2.2:Value) = .slice x.1 k1.length x.2∧Turns w [ownF (rdInt .u8) 1 5 x2.1 (k1.length) x2.2 k1] ([ownF (rdInt .u8) 1 5 x.1 k1.length x.2 k1])) Tryz.func22 (by kernel_rfl)
 (⟨(g_sum (fun w hw _=>Ints.more (hx.below hw) hw.size) hn),⟨(g_rev hl),⟨(build_ints (xs:=[((revN (crc.more 0 bs):Nat):Int)]) (by kernel_rfl) (fun g=>by kernel_rfl) (wfs_cons (wf_u32 (rev_le4 hl).2) wfs_nil) (by simp only [List.length_cons,List.length_nil];omega)),fun x1=>⟨(gives_less (fun x=>(turns_sub (.cons_cons _ (List.nil_sublist _)))) (g_put4 ((some ⟨x1,0,none⟩),[((revN (crc.more 0 bs):Nat):Int)].length) hl)),fun x2=>⟨(x2.1,x2.2),rfl,(turns_idx [0] (by decide) rfl)⟩⟩⟩⟩⟩)
section
variable {w0:World} {D:List Fact} {s:St} {v:Sv} {bs:List Nat} {A:Option Addr} {n c:Nat}
theorem g_sumof (hx:∀ w,Below w0.heap.size w0 w→All D w→Bys w w.heap.size A bs) (hn:bs.length≤100000):GivesM Tryz.prog w0 D 22 #[.slice A (toI bs).length c] (Option Addr × Nat) (fun x=>.slice x.1 (toI (le4 (crc.more 0 bs))).length x.2) (fun x=>[ownF (rdInt .u8) 1 5 x.1 (toI (le4 (crc.more 0 bs))).length x.2 (toI (le4 (crc.more 0 bs)))]):=fun w hw ha=>l_sumof A c bs w (hx w hw ha) hn
theorem g_told (hs:∀ w,Below w0.heap.size w0 w→All D w→InS w (Lt w.heap.size) v s) (hr:Lens s):GivesM Tryz.prog w0 D 21 #[.agg (stc v s)] (Option Addr × Nat) (fun x=>.slice x.1 (toI (told s)).length x.2) (fun x=>[ownF (rdInt .u8) 1 5 x.1 (toI (told s)).length x.2 (toI (told s))]):=fun w hw ha=>l_told v s w (hs w hw ha) hr
theorem told_small (h:Lens s):(told s).length≤100000:=by have:=told_len h;have:=size_small h;omega
end
def whole (s:St):List Nat:=told s++le4 (crc.more 0 (told s))
def encV (s:St):List Nat × Int:=if right s=true then (whole s,0) else ([],1)
theorem enc_yes {s:St} (h:right s=true):encV s=(whole s,0):=if_pos h
theorem enc_no {s:St} (h:right s=false):encV s=([],1):=if_neg (by rw [h];decide)
def sizeV (s:St):Int:=if right s=true then (sizeN s:Int) else 0
theorem whole_toI (s:St):toI (told s)++toI (le4 (crc.more 0 (told s)))=toI (whole s):=by simp [whole,toI]
theorem whole_toI_len (s:St):(toI (told s)).length+(toI (le4 (crc.more 0 (told s)))).length=(toI (whole s)).length:=by simp [whole,toI]
theorem l_Size (v:Sv) (s:St)  (w:World) (h:InS w (Lt w.heap.size) v s):Calls Tryz.prog 12 #[.agg (stc v s)] w fun e w'=>e = .returned (.int .i64 (sizeV s))∧Below w.heap.size w w' :=
 calls_by (fn:=Tryz.f12) (r:=.int .i64 (sizeV s)) (t:=.cs (right s) (.c (.int .i64 ((sizeN s:Nat):Int)) .z) .z) (X :=
 let k0:=((sizeN s:Nat):Int); ∀ g0:Nat,Gives Tryz.prog w [] 18 #[.agg (stc v s)] (.bool (right s))∧((right s)=true→Gives Tryz.prog w [] 26 #[.int .i64 s.a,.int .i64 s.y,.int .i64 (s.os.length:Int)] (.int .i64 k0)∧((.int .i64 k0:Value) = .int .i64 (sizeV s)))∧((right s)=false→((.int .i64 0:Value) = .int .i64 (sizeV s)))) Tryz.func12 (by kernel_rfl)
 (fun g0=>⟨(book.i_right (book.all_lt h)),fun h1=>⟨(g_size (lens_of h1)),(by unfold sizeV;rw [if_pos h1]<;>rfl)⟩,
 fun h1=>(by unfold sizeV;rw [if_neg (by rw [h1];decide)]<;>rfl)⟩)
theorem l_Encode (v:Sv) (s:St)  (w:World) (h:InS w (Lt w.heap.size) v s):Calls Tryz.prog 10 #[.agg (stc v s)] w fun e w' => ∃ x:Option Addr × Nat,e = .returned (.tuple #[.slice x.1 (toI (encV s).1).length x.2,.int .i64 (encV s).2])∧Below w.heap.size w w'∧News (fun _=>False) w.heap.size ([ownF (rdInt .u8) 1 5 x.1 (toI (encV s).1).length x.2 (toI (encV s).1)]) w' :=
 calls_mem (fn:=Tryz.f10) (r:=fun (x:Option Addr × Nat)=>.tuple #[.slice x.1 (toI (encV s).1).length x.2,.int .i64 (encV s).2]) (fs:=fun (x:Option Addr × Nat)=>[ownF (rdInt .u8) 1 5 x.1 (toI (encV s).1).length x.2 (toI (encV s).1)]) (t:=let k0:=toI (le4 (crc.more 0 (told s)));let k1:=Option Addr × Nat;let k2:=toI (whole s);let k3:=toI (told s); .cs (right s) (.cm k1 (fun x=>.slice x.1 (k3.length) x.2) (fun x=>[ownF (rdInt .u8) 1 5 x.1 (k3.length) x.2 k3]) (fun x2=>.cm k1 (fun x=>.slice x.1 (k0.length) x.2) (fun x=>[ownF (rdInt .u8) 1 5 x.1 (k0.length) x.2 k0]) (fun x3=>.w k1 (some 1) (fun x=>.slice x.1 (k2.length) x.2) (fun x=>[ownF (rdInt .u8) 1 5 x.1 (k2.length) x.2 k2]) (fun x4=>.z)))) .z) (X :=
 let k0:=toI (le4 (crc.more 0 (told s)));let k4:=toI (told s);let k1:=k4.length;let k2:=toI (encV s).1;let k6:=toI (whole s);let k3:=k6.length;let k5:=Option Addr × Nat; ∀ g0:Nat,Gives Tryz.prog w [] 18 #[.agg (stc v s)] (.bool (right s))∧((right s)=true→GivesM Tryz.prog w [] 21 #[.agg (stc v s)] k5 (fun x=>.slice x.1 k1 x.2) (fun x=>[ownF (rdInt .u8) 1 5 x.1 k1 x.2 k4])∧∀ x2:Option Addr × Nat,GivesM Tryz.prog w [ownF (rdInt .u8) 1 5 x2.1 k1 x2.2 k4] 22 #[.slice x2.1 k1 x2.2] k5 (fun x=>.slice x.1 (k0.length) x.2) (fun x=>[ownF (rdInt .u8) 1 5 x.1 (k0.length) x.2 k0])∧∀ x3:Option Addr × Nat,StepM Tryz.prog w [ownF (rdInt .u8) 1 5 x3.1 (k0.length) x3.2 k0,ownF (rdInt .u8) 1 5 x2.1 k1 x2.2 k4] (Builtin.append_ #[28,28] 28 #[.slice x2.1 k1 x2.2,.slice x3.1 (k0.length) x3.2]) ((ownF (rdInt .u8) 1 5 x2.1 k1 x2.2 k4).S) k5 (fun x=>.slice x.1 k3 x.2) (fun x=>[ownF (rdInt .u8) 1 5 x.1 k3 x.2 k6])∧∀ x4:Option Addr × Nat,∃ x:Option Addr × Nat,(.tuple #[.slice x4.1 k3 x4.2,.int .i64 0]:Value) = .tuple #[.slice x.1 k2.length x.2,.int .i64 (encV s).2]∧Turns w [ownF (rdInt .u8) 1 5 x4.1 k3 x4.2 k6,ownF (rdInt .u8) 1 5 x3.1 (k0.length) x3.2 k0] ([ownF (rdInt .u8) 1 5 x.1 k2.length x.2 k2]))∧((right s)=false→∃ x:Option Addr × Nat,(.tuple #[.slice none 0 0,.int .i64 1]:Value) = .tuple #[.slice x.1 k2.length x.2,.int .i64 (encV s).2]∧Turns w [] ([ownF (rdInt .u8) 1 5 x.1 k2.length x.2 k2]))) Tryz.func10 (by kernel_rfl)
 (fun g0=>⟨(book.i_right (book.all_lt h)),fun h1=>⟨(g_told (book.all_lt h) (lens_of h1)),fun x2=>⟨(g_sumof (own_bys (j:=0) rfl) (told_small (lens_of h1))),fun x3=>⟨(step_to2 (whole_toI_len s) (whole_toI s) (append_core (keeps_int _) (leaf_int _) (by decide) Tryz.underlying28 info_u8 rfl (fun _ h=>h) (row_at (j:=1) rfl) (fun w _ ha=>⟨_,(row_at (j:=0) rfl w ha).reads (keeps_int _) (by decide)⟩) (by simp) (by have:=told_len (lens_of h1);have:=size_small (lens_of h1);have e4:(toI (le4 (crc.more 0 (told s)))).length=4:=(by simp [toI,le4]);have e5:(toI (told s)).length=(told s).length:=(by simp [toI]);have:maxLen=9223372036854775807:=rfl;unfold maxLen;omega) (by have:=told_len (lens_of h1);have:=size_small (lens_of h1);have e4:(toI (le4 (crc.more 0 (told s)))).length=4:=(by simp [toI,le4]);have e5:(toI (told s)).length=(told s).length:=(by simp [toI]);have:maxLen=9223372036854775807:=rfl;omega) (fun h=>h))),fun x4=>⟨(x4.1,x4.2),(by rw [enc_yes h1]<;>rfl),(by rw [enc_yes h1];exact (turns_idx [0] (by decide) rfl))⟩⟩⟩⟩,
 fun h1=>⟨(none,0),(by rw [enc_no h1]<;>rfl),(by rw [enc_no h1];exact book.turns_none (keeps_int _))⟩⟩)
end Go.Proofs.YtalhdalinpdanabGreat.row
