/-
  WalJ2
-/
import Derived.Test.YtalhdalinpdanaaGreatDoorMwd33
import Derived.Test.YtalhdalinpdanaaGreatDoorMwd35
import Derived.Test.YtalhdalinpdanaaGreatDoorMwd32
set_option linter.unusedVariables false
set_option linter.unusedSimpArgs false
namespace Go.Proofs.YtalhdalinpdanaaGreatDoor.wal
open Go.RowKit Go.Proofs.YtalhdalinpdanaaGreatDoor Go.Proofs.YtalhdalinpdanaaGreatDoor.frame Go.Proofs.YtalhdalinpdanaaGreatDoor.disk
set_option maxRecDepth 20000
structure RdS where
 (e n u g c ep:Int) (all:List FrameD)
def rdz:RdS:=⟨0,0,0,0,0,1,[]⟩
def wlOf (r:RdS):Wl:=⟨r.e,r.n,r.u,r.g,r.c,[]⟩
def scanV (t:DiskD) (a ep:Int):List FrameD:=scan.all ((heldV t a).take 576) a ep
def stepR (t:DiskD) (r:RdS) (a:Int):RdS:=⟨((scanV t a r.ep).getD ((scanV t a r.ep).length - 1) frz).e+1,((scanV t a r.ep).getD ((scanV t a r.ep).length - 1) frz).l+1,((scanV t a r.ep).getD ((scanV t a r.ep).length - 1) frz).l,a,((scanV t a r.ep).length:Int),((scanV t a r.ep).getD ((scanV t a r.ep).length - 1) frz).e,r.all++scanV t a r.ep⟩
def readG (t:DiskD):List Int→RdS→RdS
 | [],r=>r
 |a :: l,r=>if r.g≠0∧a≠r.n then r else if (scanV t a r.ep).length=0 then r else if 72 * (scanV t a r.ep).length < (heldV t a).length then stepR t r a else readG t l (stepR t r a)
def readL (t:DiskD):RdS:=readG t (segs t) rdz
theorem stepR_len (t:DiskD) (r:RdS) (a:Int):r.all.length+(scanV t a r.ep).length=(stepR t r a).all.length:=(List.length_append ..).symm
theorem scanV_len (t:DiskD) (a ep:Int):(scanV t a ep).length≤8:=by
 have h:=scan.all_len ((heldV t a).take 576) a ep
 have h2:((heldV t a).take 576).length≤576:=by rw [List.length_take];exact Nat.min_le_left _ _
 unfold scanV;omega
theorem last_lt {l:List FrameD} (h:¬ (l.length:Int)=0):l.length - 1 < l.length:=by omega
theorem last_ix {t:DiskD} {a ep:Int} (h:¬ ((scanV t a ep).length:Int)=0):(.int .i64 (IntKind.i64.wrap (((scanV t a ep).length:Int) - 1)):Value) = .int .i64 (((scanV t a ep).length - 1:Nat):Int):=by
 have:=scanV_len t a ep
 exact wrap_is (by omega) (by omega) (by omega)
theorem dec_right {l:List Nat} (h:(dec l).1=0):frame.right (dec l).2=true:=by
 unfold dec at h ⊢
 split at h
 ·cases h
 ·rename_i h1
  rw [if_neg h1]
  split at h
  ·cases h
  ·rename_i h2
   rw [if_neg h2]
   split at h
   ·rename_i h3;rw [if_pos h3];exact h3
   ·cases h
theorem scan_all_right:∀ (k:Nat) (b:List Nat) (n e:Int),∀ f ∈ scan.scan k b n e,frame.right f=true
 | 0,_,_,_,f,hf=>by simp [scan.scan] at hf
 |k+1,b,n,e,f,hf=>by
  rw [scan.scan] at hf
  split at hf
  ·rename_i h
   rcases List.mem_cons.1 hf with rfl | hf
   ·exact dec_right h.2.1
   ·exact scan_all_right k _ _ _ f hf
  ·cases hf
theorem scan_rng (t:DiskD) (a ep:Int) (h:¬ ((scanV t a ep).length:Int)=0):1≤((scanV t a ep).getD ((scanV t a ep).length - 1) frz).e∧((scanV t a ep).getD ((scanV t a ep).length - 1) frz).e≤1000000∧1≤((scanV t a ep).getD ((scanV t a ep).length - 1) frz).l∧((scanV t a ep).getD ((scanV t a ep).length - 1) frz).l≤1000000000:=by
 have hl:(scanV t a ep).length - 1 < (scanV t a ep).length:=by omega
 have hm:(scanV t a ep).getD ((scanV t a ep).length - 1) frz ∈ scanV t a ep:=by
  rw [List.getD_eq_getElem?_getD,List.getElem?_eq_getElem hl];exact List.getElem_mem hl
 have:=scan_all_right _ _ _ _ _ hm
 simp only [frame.right,decide_eq_true_eq] at this
 omega
section
variable {t:DiskD} {r:RdS} {i:Nat}
abbrev ReadI (t:DiskD) (i:Nat) (r:RdS):Prop:=i≤(segs t).length∧readG t (segs t) rdz=readG t ((segs t).drop i) r∧r.all.length≤8 * i
theorem read_unfold (hi:i < (segs t).length):readG t ((segs t).drop i) r=if r.g≠0∧(segs t).getD i 0≠r.n then r else if (scanV t ((segs t).getD i 0) r.ep).length=0 then r else if 72 * (scanV t ((segs t).getD i 0) r.ep).length < (heldV t ((segs t).getD i 0)).length then stepR t r ((segs t).getD i 0) else readG t ((segs t).drop (i+1)) (stepR t r ((segs t).getD i 0)):=by
 rw [List.drop_eq_getElem_cons hi,readG,List.getD_eq_getElem?_getD,List.getElem?_eq_getElem hi,Option.getD_some]
theorem read_end (h:ReadI t i r) (hi:¬ i < (segs t).length):readL t=r:=by
 have:=h.2.1
 rw [List.drop_eq_nil_of_le (by omega)] at this
 exact this
theorem read_gap (h:ReadI t i r) (hi:i < (segs t).length) (hg:r.g≠0∧(segs t).getD i 0≠r.n):readL t=r:=by
 have:=h.2.1
 rw [read_unfold hi,if_pos hg] at this
 exact this
theorem read_none (h:ReadI t i r) (hi:i < (segs t).length) (hz:((scanV t ((segs t).getD i 0) r.ep).length:Int)=0):readL t=r:=by
 have:=h.2.1
 rw [read_unfold hi] at this
 by_cases hg:r.g≠0∧(segs t).getD i 0≠r.n
 ·rw [if_pos hg] at this;exact this
 ·rw [if_neg hg,if_pos (by omega)] at this;exact this
theorem read_last (h:ReadI t i r) (hi:i < (segs t).length) (hg:¬ (r.g≠0∧(segs t).getD i 0≠r.n)) (hz:¬ ((scanV t ((segs t).getD i 0) r.ep).length:Int)=0) (hl:((scanV t ((segs t).getD i 0) r.ep).length:Int) * 72 < ((heldV t ((segs t).getD i 0)).length:Int)):readL t=stepR t r ((segs t).getD i 0):=by
 have:=h.2.1
 rw [read_unfold hi,if_neg hg,if_neg (by omega),if_pos (by omega)] at this
 exact this
theorem read_step (h:ReadI t i r) (hi:i < (segs t).length) (hg:¬ (r.g≠0∧(segs t).getD i 0≠r.n)) (hz:¬ ((scanV t ((segs t).getD i 0) r.ep).length:Int)=0) (hl:¬ ((scanV t ((segs t).getD i 0) r.ep).length:Int) * 72 < ((heldV t ((segs t).getD i 0)).length:Int)):ReadI t (i+1) (stepR t r ((segs t).getD i 0)):=by
 have h1:=h.2.1
 rw [read_unfold hi,if_neg hg,if_neg (by omega),if_neg (by omega)] at h1
 have h2:=scanV_len t ((segs t).getD i 0) r.ep
 have h3:=h.2.2
 exact ⟨hi,h1,by rw [← stepR_len];omega⟩
variable {w0:World} {D:List Fact} {u:Dv}
theorem q_read {A:Option Addr} {c:Nat} (hr:readL t=r) (hD:Turns w0 D [ownF rdFrame 9 72 A r.all.length c r.all]):∃ x:Option Addr × Nat,(.tuple #[.agg #[.int .i64 r.e,.int .i64 r.n,.int .i64 r.u,.int .i64 r.g,.int .i64 r.c,.slice none 0 0],.slice A r.all.length c]:Value) = .tuple #[.agg (jc ⟨none,0⟩ (wlOf (readL t))),.slice x.1 (readL t).all.length x.2]∧Turns w0 D [ownF rdFrame 9 72 x.1 (readL t).all.length x.2 (readL t).all]:=by
 subst hr;exact ⟨(A,c),rfl,hD⟩
theorem g_heldb {g : Int} (hd : InD w0 (Lt w0.heap.size) u t) (hs : shortB t.files = true) (hg : inI g) (ht : Lib.TabIs Tryz.prog w0 "internal/strconv.uint64pow10" .u64 Lib.pow10Tab) : GivesM Tryz.prog w0 D 66 #[.agg (dc u t), .int .i64 g] { x : Option Addr × Nat // BysIn w0 (Lt w0.heap.size) x.1 (heldV t g) ∧ (heldV t g).length ≤ x.2 ∧ x.2 ≤ maxLen } (fun x => .slice x.1.1 (heldV t g).length x.1.2) (fun _ => []) := fun w hw _ =>
 (v_held u t g (Lt w0.heap.size) w (hd.below hw) (fun _ h=>Nat.lt_of_lt_of_le h hw.size) hs hg (var_later ht hw)).mono (by
 rintro e w' ⟨x,rfl,hb,h1,h2,h3⟩
 exact ⟨⟨x,IntsIn.keep h1 (fun b o hk=>((hw.trans (hb.mono hw.size)).cell (p:=⟨b,o,none⟩) hk).symm) (fun _ h=>h),h2,h3⟩,rfl,hb,news_nil⟩)
theorem bys_576 {A:Option Addr} {bs:List Nat} {S:Nat→Prop} (h:BysIn w0 S A bs):BysIn w0 S A (bs.take 576):=by
 obtain ⟨h1,h2⟩:=h
 have e:toI (bs.take 576)=(toI bs).take 576:=by unfold toI;rw [List.map_take]
 refine ⟨fun x hx=>h1 x (by rw [e] at hx;exact List.mem_of_mem_take hx),fun hn=>?_⟩
 rw [e] at hn ⊢
 obtain ⟨b,off,e1,e2,e3⟩:=h2 (by rw [List.length_take] at hn;omega)
 refine ⟨b,off,e1,e2,fun j hj=>?_⟩
 rw [List.length_take] at hj
 rw [e3 j (by omega),List.getD_eq_getElem?_getD,List.getD_eq_getElem?_getD,List.getElem?_take,if_pos (by omega)]
theorem info_b8:(Tryz.prog.info? 5).map (fun i=>(i.zero,i.size,i.bytes))=some (some (.int .u8 0),1,1):=by kernel_rfl
theorem len_576 (bs:List Nat):(bs.take 576).length≤100000:=Nat.le_trans (by rw [List.length_take];exact Nat.min_le_left _ _) (by decide)
theorem take_576 {bs:List Nat} {c:Nat} (h:bs.length≤c):(bs.take 576).length≤c:=by rw [List.length_take];omega
theorem cut_576 {A:Option Addr} {c:Nat} {bs:List Nat} (h:bs.length≤c):Yields0 Tryz.prog w0 D (Instr.sliceAt 62 (.slice A bs.length c) none (some (.int .i64 (if 576 < (bs.length:Int) then 576 else (bs.length:Int)))) none) (.slice A (bs.take 576).length c):=by
 by_cases h5:576 < (bs.length:Int)
 ·rw [if_pos h5]
  exact cut_to Tryz.underlying62 info_b8 bs 576 (by omega) h
 ·rw [if_neg h5,List.take_of_length_le (by omega)]
  have:=cut_to (w0:=w0) (D:=D) Tryz.underlying62 info_b8 (A:=A) bs bs.length (Nat.le_refl _) h
  rwa [List.take_length] at this
theorem g_scan {A:Option Addr} {c:Nat} {ep:Int} {g:Int} (hx:BysIn w0 (Lt w0.heap.size) A ((heldV t g).take 576)) (hc:((heldV t g).take 576).length≤c) (hm:c≤maxLen):GivesM Tryz.prog w0 D 92 #[.slice A ((heldV t g).take 576).length c,.int .i64 g,.int .i64 ep] (Option Addr × Nat) (fun x=>.tuple #[.slice x.1 (scanV t g ep).length x.2,.int .i64 (((scanV t g ep).length:Int) * 72)]) (fun x=>[ownF rdFrame 9 72 x.1 (scanV t g ep).length x.2 (scanV t g ep)]):=fun w hw _ =>
 (scan.scan_of w (B:=w.heap.size) (BysIn.bys (hx.keep (below_alike hw) (fun _ h=>h)) (fun b hb=>Nat.lt_of_lt_of_le hb hw.size)) (Nat.le_refl _) rfl hc (by unfold maxLen at hm;omega) (len_576 _) rfl rfl).mono (by
 rintro e w' ⟨A',c',rfl,ho,hb⟩
 exact ⟨(A',c'),rfl,hb,news_one (ho.lower (Nat.zero_le _)) (ownF_stable keeps_frame) (fun k hk=>⟨.inr (ho.block k hk).1,(ho.block k hk).2⟩)⟩)
end
theorem v_read (u : Dv) (t : DiskD)  (w : World) (hd : InD w (Lt w.heap.size) u t) (hs : shortB t.files = true) (ht : Lib.TabIs Tryz.prog w "internal/strconv.uint64pow10" .u64 Lib.pow10Tab) (he : ErrVar w) : Calls Tryz.prog 51 #[.agg (dc u t)] w fun e w' => ∃ x : Option Addr × Nat, e = .returned (.tuple #[.agg (jc ⟨none, 0⟩ (wlOf (readL t))), .slice x.1 (readL t).all.length x.2]) ∧ Below w.heap.size w w' ∧ News (fun _ => False) w.heap.size ([ownF rdFrame 9 72 x.1 (readL t).all.length x.2 (readL t).all]) w' :=
 have hsl:=segs_len hs
 calls_mem (fn:=Tryz.f51) (r:=fun (x:Option Addr × Nat)=>.tuple #[.agg (jc ⟨none,0⟩ (wlOf (readL t))),.slice x.1 (readL t).all.length x.2]) (fs:=fun (x:Option Addr × Nat)=>[ownF rdFrame 9 72 x.1 (readL t).all.length x.2 (readL t).all]) (t:=let k0:=Option Addr × Nat;let k1:=(segs t).length; .cm k0 (fun x=>.slice x.1 k1 x.2) (fun x=>[ownF (rdInt .i64) 1 2 x.1 k1 x.2 (segs t)]) (fun x1=>.l (Nat × RdS × k0) (fun x=>[(1,undef,some (0,0)),(2,undef,some (1,0)),(4,undef,some (2,0)),(5,.slice x.2.2.1 x.2.1.all.length x.2.2.2,none),(6,.int .i64 x.2.1.ep,none),(14,.slice x1.1 k1 x1.2,none),(15,.int .i64 ((segs t).length:Int),none),(16,.int .i64 (x.1:Int),none)]) (fun x=>[(2,#[.int .i64 x.2.1.e,.int .i64 x.2.1.n,.int .i64 x.2.1.u,.int .i64 x.2.1.g,.int .i64 x.2.1.c,.slice none 0 0])]) [0,1,2] [ownF rdFrame 9 72 none 0 0 ([])] (fun x=>[ownF rdFrame 9 72 x.2.2.1 x.2.1.all.length x.2.2.2 x.2.1.all,ownF (rdInt .i64) 1 2 x1.1 k1 x1.2 (segs t)]) (fun x=>x.1≤(segs t).length∧readG t (segs t) rdz=readG t ((segs t).drop x.1) x.2.1∧x.2.1.all.length≤8 * x.1) (fun x=>(segs t).length - x.1) ((0,rdz,(none,0)):Nat × RdS × k0) (fun y2=>let k3:=(segs t).getD y2.1 0;let k2:=scanV t k3 y2.2.1.ep;let k4:=(k2.length - 1:Nat);let k7:=stepR t y2.2.1 k3;let k5:=k7.all.length;let k6:=k2.getD k4 frz;let k8:=((heldV t k3).take 576).length;let k9:Value:=.int .i64 ((y2.1+1:Nat):Int); .s (.q (blkA x1.1) (offA x1.1+y2.1 * 1) #[.int .i64 k3] (.s (.k (.s .z (.cm ({ x:Option Addr × Nat // BysIn w (Lt w.heap.size) x.1 (heldV t k3)∧(heldV t k3).length≤x.2∧x.2≤maxLen }) (fun x=>.slice x.1.1 ((heldV t k3).length) x.1.2) (fun x=>[]) (fun x8=>.x (.slice x8.1.1 k8 x8.1.2) (.cm k0 (fun x=>.tuple #[.slice x.1 (k2.length) x.2,.int .i64 ((k2.length:Int) * 72)]) (fun x=>[ownF rdFrame 9 72 x.1 (k2.length) x.2 k2]) (fun x9=>.s .z (.w k0 (some 1) (fun x=>.slice x.1 k5 x.2) (fun x=>[ownF rdFrame 9 72 x.1 k5 x.2 (k7.all)]) (fun x11=>.e (.int .i64 (k4:Int)) (.q (blkA x9.1) (offA x9.1+k4 * 9) (fc k6) (.e (.int .i64 (k6.e+1)) (.e (.int .i64 (k6.l+1)) (.s .z (.e k9 .z))))))))))))) (.k (.cm ({ x:Option Addr × Nat // BysIn w (Lt w.heap.size) x.1 (heldV t k3)∧(heldV t k3).length≤x.2∧x.2≤maxLen }) (fun x=>.slice x.1.1 ((heldV t k3).length) x.1.2) (fun x=>[]) (fun x13=>.x (.slice x13.1.1 k8 x13.1.2) (.cm k0 (fun x=>.tuple #[.slice x.1 (k2.length) x.2,.int .i64 ((k2.length:Int) * 72)]) (fun x=>[ownF rdFrame 9 72 x.1 (k2.length) x.2 k2]) (fun x14=>.s .z (.w k0 (some 1) (fun x=>.slice x.1 k5 x.2) (fun x=>[ownF rdFrame 9 72 x.1 k5 x.2 (k7.all)]) (fun x16=>.e (.int .i64 (k4:Int)) (.q (blkA x14.1) (offA x14.1+k4 * 9) (fc k6) (.e (.int .i64 (k6.e+1)) (.e (.int .i64 (k6.l+1)) (.s .z (.e k9 .z)))))))))))))) .z))) (X :=
 let k4:=Option Addr × Nat;let k0:=((0,rdz,(none,0)):Nat × RdS × k4);let k1:=(segs t).length;let k2:Array Value:=#[.int .i64 0,.int .i64 0,.int .i64 0,.int .i64 0,.int .i64 0,.slice none 0 0];let k3:=((segs t).length:Int);let k5:=wlOf (readL t);let k6:=Lt w.heap.size; ∀ g0:Nat,let k7:Option Addr:=some ⟨g0,0,none⟩;  ∀ g1:Nat,let k8:Option Addr:=some ⟨g1,0,none⟩;  ∀ g2:Nat,let k9:Option Addr:=some ⟨g2,0,none⟩;GivesM Tryz.prog w [] 21 #[.agg (dc u t)] k4 (fun x=>.slice x.1 k1 x.2) (fun x=>[ownF (rdInt .i64) 1 2 x.1 k1 x.2 (segs t)])∧∀ x1:Option Addr × Nat,Brings w [ownF (rdInt .i64) 1 2 x1.1 k1 x1.2 (segs t)] [ownF rdFrame 9 72 none 0 0 ([])]∧(k0.1≤(segs t).length∧readG t (segs t) rdz=readG t ((segs t).drop k0.1) k0.2.1∧k0.2.1.all.length≤8 * k0.1)∧(([.pointer k7,.pointer k8,.pointer k9,.slice none 0 0,.int .i64 1,.slice x1.1 k1 x1.2,.int .i64 k3,.int .i64 0]:List Value)=[.pointer k7,.pointer k8,.pointer k9,.slice (k0.2.2.1) (k0.2.1.all.length) (k0.2.2.2),.int .i64 (k0.2.1.ep),.slice x1.1 k1 x1.2,.int .i64 k3,.int .i64 (k0.1:Int)]∧([some ⟨g2,0,k2,.own 24⟩,some ⟨g1,0,k2,.own 24⟩,some ⟨g0,0,(dc u t),.own 27⟩]:List (Option Blk))=[some ⟨g2,0,#[.int .i64 (k0.2.1.e),.int .i64 (k0.2.1.n),.int .i64 (k0.2.1.u),.int .i64 (k0.2.1.g),.int .i64 (k0.2.1.c),.slice none 0 0],.own 24⟩,some ⟨g1,0,k2,.own 24⟩,some ⟨g0,0,(dc u t),.own 27⟩]∧Turns w [ownF rdFrame 9 72 none 0 0 ([]),ownF (rdInt .i64) 1 2 x1.1 k1 x1.2 (segs t)] [ownF rdFrame 9 72 (k0.2.2.1) (k0.2.1.all.length) (k0.2.2.2) (k0.2.1.all),ownF (rdInt .i64) 1 2 x1.1 k1 x1.2 (segs t)])∧true=true∧∀ (y2:Nat × RdS × k4),let k11:=(segs t).getD y2.1 0;let k10:=scanV t k11 y2.2.1.ep;let k12:List Fact:=[ownF rdFrame 9 72 y2.2.2.1 y2.2.1.all.length y2.2.2.2 y2.2.1.all,ownF (rdInt .i64) 1 2 x1.1 k1 x1.2 (segs t)];let k19:=(k10.length - 1:Nat);let k13:=k10.getD k19 frz;let k14:=(.tuple #[.agg #[.int .i64 y2.2.1.e,.int .i64 y2.2.1.n,.int .i64 y2.2.1.u,.int .i64 y2.2.1.g,.int .i64 y2.2.1.c,.slice none 0 0],.slice y2.2.2.1 y2.2.1.all.length y2.2.2.2]:Value);let k15:=(stepR t y2.2.1 k11).all.length;let k20:=(k10.length:Int);let k16:Array Value:=#[.int .i64 (k13.e+1),.int .i64 (k13.l+1),.int .i64 (k13.l),.int .i64 k11,.int .i64 k20,.slice none 0 0];let k17:=(stepR t y2.2.1 k11).all;let k22:=((heldV t k11).length:Int);let k18:=decide ((k20 * 72) < k22);let k21:=([some ⟨g2,0,k16,.own 24⟩,some ⟨g1,0,k2,.own 24⟩,some ⟨g0,0,(dc u t),.own 27⟩]:List (Option Blk));let k23:=((heldV t k11).take 576).length;let k24:=(ownF rdFrame 9 72 y2.2.2.1 y2.2.1.all.length y2.2.2.2 y2.2.1.all).S;let k25:=((y2.1+1:Nat):Int);let k26:=(heldV t k11).length;let k27:=(.int .i64 (IntKind.i64.wrap ((y2.1:Int)+1)):Value);let k28:=(.int .i64 (IntKind.i64.wrap (k13.e+1)):Value);let k29:=(.int .i64 (IntKind.i64.wrap (k13.l+1)):Value);let k30:=decide (k20=0);let k31:=(.int .i64 (IntKind.i64.wrap (k20 - 1)):Value);let k32:Value:=.int .i64 (if 576 < k22 then 576 else k22);let k33:=decide ((y2.1:Int) < k3);let k34 := !decide (k11=y2.2.1.n);(y2.1≤(segs t).length∧readG t (segs t) rdz=readG t ((segs t).drop y2.1) y2.2.1∧y2.2.1.all.length≤8 * y2.1)→∀ τ4:Nat→Value,(k33=true→Yields0 Tryz.prog w k12 (Instr.indexAt 47 (.slice x1.1 k1 x1.2) (.int .i64 (y2.1:Int))) (.pointer (some ⟨blkA x1.1,offA x1.1+y2.1 * 1,none⟩))∧Reads0 w k12 (blkA x1.1) (offA x1.1+y2.1 * 1) #[.int .i64 k11]∧((!decide (y2.2.1.g=0))=true→(k34=true→∃ x:Option Addr × Nat,k14 = .tuple #[.agg (jc ⟨none,0⟩ k5),.slice x.1 (readL t).all.length x.2]∧Turns w k12 ([ownF rdFrame 9 72 x.1 (readL t).all.length x.2 (readL t).all]))∧(k34=false→GivesM Tryz.prog w k12 66 #[.agg (dc u t),.int .i64 k11] ({ x:Option Addr × Nat // BysIn w k6 x.1 (heldV t k11)∧(heldV t k11).length≤x.2∧x.2≤maxLen }) (fun x=>.slice x.1.1 k26 x.1.2) (fun x=>[])∧∀ x8:{ x:Option Addr × Nat // BysIn w k6 x.1 (heldV t k11)∧(heldV t k11).length≤x.2∧x.2≤maxLen },Yields0 Tryz.prog w k12 (Instr.sliceAt 62 (.slice x8.1.1 k26 x8.1.2) none (some k32) none) (.slice x8.1.1 k23 x8.1.2)∧GivesM Tryz.prog w k12 92 #[.slice x8.1.1 k23 x8.1.2,.int .i64 k11,.int .i64 y2.2.1.ep] k4 (fun x=>.tuple #[.slice x.1 (k10.length) x.2,.int .i64 (k20 * 72)]) (fun x=>[ownF rdFrame 9 72 x.1 (k10.length) x.2 k10])∧∀ x9:Option Addr × Nat,let k35:List Fact:=[ownF rdFrame 9 72 x9.1 (k10.length) x9.2 k10,ownF rdFrame 9 72 y2.2.2.1 y2.2.1.all.length y2.2.2.2 y2.2.1.all,ownF (rdInt .i64) 1 2 x1.1 k1 x1.2 (segs t)];(k30=true→∃ x:Option Addr × Nat,k14 = .tuple #[.agg (jc ⟨none,0⟩ k5),.slice x.1 (readL t).all.length x.2]∧Turns w k35 ([ownF rdFrame 9 72 x.1 (readL t).all.length x.2 (readL t).all]))∧(k30=false→StepM Tryz.prog w k35 (Builtin.append_ #[22,22] 22 #[.slice y2.2.2.1 y2.2.1.all.length y2.2.2.2,.slice x9.1 (k10.length) x9.2]) k24 k4 (fun x=>.slice x.1 k15 x.2) (fun x=>[ownF rdFrame 9 72 x.1 k15 x.2 k17])∧∀ x11:Option Addr × Nat,let k36:List Fact:=[ownF rdFrame 9 72 x11.1 k15 x11.2 k17,ownF rdFrame 9 72 x9.1 (k10.length) x9.2 k10,ownF (rdInt .i64) 1 2 x1.1 k1 x1.2 (segs t)];k31 = .int .i64 (k19:Int)∧Yields0 Tryz.prog w k36 (Instr.indexAt 22 (.slice x9.1 (k10.length) x9.2) (.int .i64 (k19:Int))) (.pointer (some ⟨blkA x9.1,offA x9.1+k19 * 9,none⟩))∧Reads0 w k36 (blkA x9.1) (offA x9.1+k19 * 9) (fc k13)∧∀ g5:Nat,k28 = .int .i64 (k13.e+1)∧k29 = .int .i64 (k13.l+1)∧(k18=true→∃ x:Option Addr × Nat,(.tuple #[.agg k16,.slice x11.1 k15 x11.2]:Value) = .tuple #[.agg (jc ⟨none,0⟩ k5),.slice x.1 (readL t).all.length x.2]∧Turns w k36 ([ownF rdFrame 9 72 x.1 (readL t).all.length x.2 (readL t).all]))∧(k18=false→k27 = .int .i64 k25∧∃ x' : Nat × RdS × k4,(x'.1≤(segs t).length∧readG t (segs t) rdz=readG t ((segs t).drop x'.1) x'.2.1∧x'.2.1.all.length≤8 * x'.1)∧((segs t).length - x'.1 < (segs t).length - y2.1)∧(([.pointer k7,.pointer k8,.pointer k9,.slice x11.1 k15 x11.2,.int .i64 (k13.e),.slice x1.1 k1 x1.2,.int .i64 k3,.int .i64 k25]:List Value)=[.pointer k7,.pointer k8,.pointer k9,.slice x'.2.2.1 x'.2.1.all.length x'.2.2.2,.int .i64 x'.2.1.ep,.slice x1.1 k1 x1.2,.int .i64 k3,.int .i64 (x'.1:Int)]∧k21=[some ⟨g2,0,#[.int .i64 x'.2.1.e,.int .i64 x'.2.1.n,.int .i64 x'.2.1.u,.int .i64 x'.2.1.g,.int .i64 x'.2.1.c,.slice none 0 0],.own 24⟩,some ⟨g1,0,k2,.own 24⟩,some ⟨g0,0,(dc u t),.own 27⟩]∧Turns w k36 [ownF rdFrame 9 72 x'.2.2.1 x'.2.1.all.length x'.2.2.2 x'.2.1.all,ownF (rdInt .i64) 1 2 x1.1 k1 x1.2 (segs t)])∧true=true))))∧((!decide (y2.2.1.g=0))=false→GivesM Tryz.prog w k12 66 #[.agg (dc u t),.int .i64 k11] ({ x:Option Addr × Nat // BysIn w k6 x.1 (heldV t k11)∧(heldV t k11).length≤x.2∧x.2≤maxLen }) (fun x=>.slice x.1.1 k26 x.1.2) (fun x=>[])∧∀ x13:{ x:Option Addr × Nat // BysIn w k6 x.1 (heldV t k11)∧(heldV t k11).length≤x.2∧x.2≤maxLen },Yields0 Tryz.prog w k12 (Instr.sliceAt 62 (.slice x13.1.1 k26 x13.1.2) none (some k32) none) (.slice x13.1.1 k23 x13.1.2)∧GivesM Tryz.prog w k12 92 #[.slice x13.1.1 k23 x13.1.2,.int .i64 k11,.int .i64 y2.2.1.ep] k4 (fun x=>.tuple #[.slice x.1 (k10.length) x.2,.int .i64 (k20 * 72)]) (fun x=>[ownF rdFrame 9 72 x.1 (k10.length) x.2 k10])∧∀ x14:Option Addr × Nat,let k37:List Fact:=[ownF rdFrame 9 72 x14.1 (k10.length) x14.2 k10,ownF rdFrame 9 72 y2.2.2.1 y2.2.1.all.length y2.2.2.2 y2.2.1.all,ownF (rdInt .i64) 1 2 x1.1 k1 x1.2 (segs t)];(k30=true→∃ x:Option Addr × Nat,k14 = .tuple #[.agg (jc ⟨none,0⟩ k5),.slice x.1 (readL t).all.length x.2]∧Turns w k37 ([ownF rdFrame 9 72 x.1 (readL t).all.length x.2 (readL t).all]))∧(k30=false→StepM Tryz.prog w k37 (Builtin.append_ #[22,22] 22 #[.slice y2.2.2.1 y2.2.1.all.length y2.2.2.2,.slice x14.1 (k10.length) x14.2]) k24 k4 (fun x=>.slice x.1 k15 x.2) (fun x=>[ownF rdFrame 9 72 x.1 k15 x.2 k17])∧∀ x16:Option Addr × Nat,let k38:List Fact:=[ownF rdFrame 9 72 x16.1 k15 x16.2 k17,ownF rdFrame 9 72 x14.1 (k10.length) x14.2 k10,ownF (rdInt .i64) 1 2 x1.1 k1 x1.2 (segs t)];k31 = .int .i64 (k19:Int)∧Yields0 Tryz.prog w k38 (Instr.indexAt 22 (.slice x14.1 (k10.length) x14.2) (.int .i64 (k19:Int))) (.pointer (some ⟨blkA x14.1,offA x14.1+k19 * 9,none⟩))∧Reads0 w k38 (blkA x14.1) (offA x14.1+k19 * 9) (fc k13)∧∀ g5:Nat,k28 = .int .i64 (k13.e+1)∧k29 = .int .i64 (k13.l+1)∧(k18=true→∃ x:Option Addr × Nat,(.tuple #[.agg k16,.slice x16.1 k15 x16.2]:Value) = .tuple #[.agg (jc ⟨none,0⟩ k5),.slice x.1 (readL t).all.length x.2]∧Turns w k38 ([ownF rdFrame 9 72 x.1 (readL t).all.length x.2 (readL t).all]))∧(k18=false→k27 = .int .i64 k25∧∃ x' : Nat × RdS × k4,(x'.1≤(segs t).length∧readG t (segs t) rdz=readG t ((segs t).drop x'.1) x'.2.1∧x'.2.1.all.length≤8 * x'.1)∧((segs t).length - x'.1 < (segs t).length - y2.1)∧(([.pointer k7,.pointer k8,.pointer k9,.slice x16.1 k15 x16.2,.int .i64 (k13.e),.slice x1.1 k1 x1.2,.int .i64 k3,.int .i64 k25]:List Value)=[.pointer k7,.pointer k8,.pointer k9,.slice x'.2.2.1 x'.2.1.all.length x'.2.2.2,.int .i64 x'.2.1.ep,.slice x1.1 k1 x1.2,.int .i64 k3,.int .i64 (x'.1:Int)]∧k21=[some ⟨g2,0,#[.int .i64 x'.2.1.e,.int .i64 x'.2.1.n,.int .i64 x'.2.1.u,.int .i64 x'.2.1.g,.int .i64 x'.2.1.c,.slice none 0 0],.own 24⟩,some ⟨g1,0,k2,.own 24⟩,some ⟨g0,0,(dc u t),.own 27⟩]∧Turns w k38 [ownF rdFrame 9 72 x'.2.2.1 x'.2.1.all.length x'.2.2.2 x'.2.1.all,ownF (rdInt .i64) 1 2 x1.1 k1 x1.2 (segs t)])∧true=true))))∧(k33=false→∃ x:Option Addr × Nat,k14 = .tuple #[.agg (jc ⟨none,0⟩ k5),.slice x.1 (readL t).all.length x.2]∧Turns w k12 ([ownF rdFrame 9 72 x.1 (readL t).all.length x.2 (readL t).all]))) Tryz.func51 (by kernel_rfl)
 (fun g0=>fun g1=>fun g2=>⟨(g_segs hd hs ht he),fun x1=>⟨(own_nil keeps_frame 9 _),⟨Nat.zero_le _,rfl,Nat.zero_le _⟩,⟨rfl,rfl,(turns_sub (List.Sublist.refl _))⟩,rfl,fun y2 I3 τ4=>⟨fun h5=>have h5:(y2.1:Int) < ((segs t).length:Int):=(by simpa using h5)
⟨(own_index Tryz.underlying47 info_i64 (row_at (j:=1) rfl) (by omega)),(own_reads (keeps_int _) (by decide) int_cells (row_at (j:=1) rfl) (at_getD (by omega))),⟨fun h6=>have h6:¬ y2.2.1.g=0:=(by simpa using h6)
⟨fun h7=>have h7:¬ ((segs t).getD y2.1 0)=y2.2.1.n:=(by simpa using h7)
(q_read (r:=y2.2.1) (read_gap I3 (by omega) (by omega)) (turns_idx [0] (by decide) rfl)),
 fun h7=>have h7:((segs t).getD y2.1 0)=y2.2.1.n:=(by simpa using h7)
⟨(g_heldb hd hs (seg_in (segs_rng t) (by omega)) ht),fun x8=>⟨(cut_576 x8.2.2.1),⟨(g_scan (bys_576 x8.2.1) (take_576 x8.2.2.1) x8.2.2.2),fun x9=>⟨fun h10=>have h10:((scanV t ((segs t).getD y2.1 0) y2.2.1.ep).length:Int)=0:=(by simpa using h10)
(q_read (r:=y2.2.1) (read_none I3 (by omega) h10) (turns_idx [1] (by decide) rfl)),
 fun h10=>have h10:¬ ((scanV t ((segs t).getD y2.1 0) y2.2.1.ep).length:Int)=0:=(by simpa using h10)
⟨(step_to2 (stepR_len _ _ _) rfl (append_core keeps_frame leaf_frame (by decide) Tryz.underlying22 info_frame rfl (fun _ h=>h) (row_at (j:=1) rfl) (fun w _ ha=>⟨_,(row_at (j:=0) rfl w ha).reads keeps_frame (by decide)⟩) rfl (by have:=I3.2.2;have:=scanV_len t ((segs t).getD y2.1 0) y2.2.1.ep;unfold maxLen;omega) (by have:=I3.2.2;have:=scanV_len t ((segs t).getD y2.1 0) y2.2.1.ep;omega) (fun h=>h))),fun x11=>⟨(last_ix h10),⟨(own_index Tryz.underlying22 info_frame (row_at (j:=1) rfl) (last_lt h10)),(own_reads keeps_frame (by decide) frame_cells (row_at (j:=1) rfl) (at_getD (by omega))),fun g5=>⟨wrap_is rfl (by have:=scan_rng t ((segs t).getD y2.1 0) y2.2.1.ep h10;omega) (by have:=scan_rng t ((segs t).getD y2.1 0) y2.2.1.ep h10;omega),⟨wrap_is rfl (by have:=scan_rng t ((segs t).getD y2.1 0) y2.2.1.ep h10;omega) (by have:=scan_rng t ((segs t).getD y2.1 0) y2.2.1.ep h10;omega),⟨fun h12=>have h12:(((scanV t ((segs t).getD y2.1 0) y2.2.1.ep).length:Int) * 72) < ((heldV t ((segs t).getD y2.1 0)).length:Int):=(by simpa using h12)
(q_read (r:=(stepR t y2.2.1 ((segs t).getD y2.1 0))) (read_last I3 (by omega) (by omega) h10 (by omega)) (turns_idx [0] (by decide) rfl)),
 fun h12=>have h12:¬ (((scanV t ((segs t).getD y2.1 0) y2.2.1.ep).length:Int) * 72) < ((heldV t ((segs t).getD y2.1 0)).length:Int):=(by simpa using h12)
⟨wrap_is (by omega) (by omega) (by omega),⟨((y2.1+1,(stepR t y2.2.1 ((segs t).getD y2.1 0)),(x11.1,x11.2)):Nat × RdS × (Option Addr × Nat)),(read_step I3 (by omega) (by omega) h10 (by omega)),(by dsimp only;omega),⟨rfl,rfl,(turns_idx [0,2] (by decide) rfl)⟩,rfl⟩⟩⟩⟩⟩⟩⟩⟩⟩⟩⟩⟩⟩,
 fun h6=>have h6:y2.2.1.g=0:=(by simpa using h6)
⟨(g_heldb hd hs (seg_in (segs_rng t) (by omega)) ht),fun x13=>⟨(cut_576 x13.2.2.1),⟨(g_scan (bys_576 x13.2.1) (take_576 x13.2.2.1) x13.2.2.2),fun x14=>⟨fun h15=>have h15:((scanV t ((segs t).getD y2.1 0) y2.2.1.ep).length:Int)=0:=(by simpa using h15)
(q_read (r:=y2.2.1) (read_none I3 (by omega) h15) (turns_idx [1] (by decide) rfl)),
 fun h15=>have h15:¬ ((scanV t ((segs t).getD y2.1 0) y2.2.1.ep).length:Int)=0:=(by simpa using h15)
⟨(step_to2 (stepR_len _ _ _) rfl (append_core keeps_frame leaf_frame (by decide) Tryz.underlying22 info_frame rfl (fun _ h=>h) (row_at (j:=1) rfl) (fun w _ ha=>⟨_,(row_at (j:=0) rfl w ha).reads keeps_frame (by decide)⟩) rfl (by have:=I3.2.2;have:=scanV_len t ((segs t).getD y2.1 0) y2.2.1.ep;unfold maxLen;omega) (by have:=I3.2.2;have:=scanV_len t ((segs t).getD y2.1 0) y2.2.1.ep;omega) (fun h=>h))),fun x16=>⟨(last_ix h15),⟨(own_index Tryz.underlying22 info_frame (row_at (j:=1) rfl) (last_lt h15)),(own_reads keeps_frame (by decide) frame_cells (row_at (j:=1) rfl) (at_getD (by omega))),fun g5=>⟨wrap_is rfl (by have:=scan_rng t ((segs t).getD y2.1 0) y2.2.1.ep h15;omega) (by have:=scan_rng t ((segs t).getD y2.1 0) y2.2.1.ep h15;omega),⟨wrap_is rfl (by have:=scan_rng t ((segs t).getD y2.1 0) y2.2.1.ep h15;omega) (by have:=scan_rng t ((segs t).getD y2.1 0) y2.2.1.ep h15;omega),⟨fun h17=>have h17:(((scanV t ((segs t).getD y2.1 0) y2.2.1.ep).length:Int) * 72) < ((heldV t ((segs t).getD y2.1 0)).length:Int):=(by simpa using h17)
(q_read (r:=(stepR t y2.2.1 ((segs t).getD y2.1 0))) (read_last I3 (by omega) (by omega) h15 (by omega)) (turns_idx [0] (by decide) rfl)),
 fun h17=>have h17:¬ (((scanV t ((segs t).getD y2.1 0) y2.2.1.ep).length:Int) * 72) < ((heldV t ((segs t).getD y2.1 0)).length:Int):=(by simpa using h17)
⟨wrap_is (by omega) (by omega) (by omega),⟨((y2.1+1,(stepR t y2.2.1 ((segs t).getD y2.1 0)),(x16.1,x16.2)):Nat × RdS × (Option Addr × Nat)),(read_step I3 (by omega) (by omega) h15 (by omega)),(by dsimp only;omega),⟨rfl,rfl,(turns_idx [0,2] (by decide) rfl)⟩,rfl⟩⟩⟩⟩⟩⟩⟩⟩⟩⟩⟩⟩⟩⟩,
 fun h5=>have h5:¬ (y2.1:Int) < ((segs t).length:Int):=(by simpa using h5)
(q_read (r:=y2.2.1) (read_end I3 (by omega)) (turns_idx [0] (by decide) rfl))⟩⟩⟩)
end Go.Proofs.YtalhdalinpdanaaGreatDoor.wal
