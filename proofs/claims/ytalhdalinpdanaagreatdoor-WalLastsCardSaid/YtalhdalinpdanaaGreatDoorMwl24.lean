/-
  FrameImpl4, Frs, FrameRef, ScanImpl1, ScanScan
-/
import Derived.Test.YtalhdalinpdanaaGreatDoorMwl23
import Derived.Test.YtalhdalinpdanaaGreatDoorMwl22
import Derived.Test.YtalhdalinpdanaaGreatDoorMwl06
import Derived.Test.YtalhdalinpdanaaGreatDoorMwl05
import Derived.Deep.QuietTactic
import Derived.BigQuiet
import Derived.Test.YtalhdalinpdanaaGreatDoorMwl19
import Derived.Test.YtalhdalinpdanaaGreatDoorMwl03
set_option linter.unusedVariables false
set_option linter.unusedSimpArgs false
section
namespace Go.Proofs.YtalhdalinpdanaaGreatDoor.frame
set_option maxRecDepth 20000
open Go.RowKit Go.Proofs.YtalhdalinpdanaaGreatDoor
theorem decode_head (b off cap v:Nat) (bs:List Nat) (w:World) (hx:Bys w w.heap.size (some ⟨b,off,none⟩) bs) (hn:bs.length=72) (hc:72≤cap) (hcm:cap≤9223372036854775807) (h0:num (seg bs 0 4)=v) (hv:v≠72) :
  Calls Tryz.prog 125 #[.slice (some ⟨b,off,none⟩) 72 cap] w (Decoded (dec bs) w):=by
 have hd:dec bs=(2,zero):=by unfold dec;rw [if_pos (.inr (by omega))]
 rw [hd]
 have HN0:Hid (∀ W c,Below w.heap.size w W→Calls Tryz.prog 150 #[.slice (some ⟨b,off,none⟩) 4 c] W fun e w'=>e = .returned (.int .u64 (v:Int))∧W=w'):=Lib.hid (fun W c hb=>number_seg hx hn 0 4 v (by omega) (by omega) h0 off c rfl W hb)
 have ht:((v:Int) != 72)=true:=by simp;omega
 clear hd hn h0 hv hx
 go_enter Tryz.func125,Tryz.ntmps125
 go_wp2_with ((with_reducible refine Calls.mono (HN0.out _ _ ((Below.refl _ _).alloc (Nat.le_refl _) _)) ?_);rintro e1 w1 ⟨rfl,rfl⟩)
 exact bodyPost_ret (v:=.tuple #[.agg #[.int .i64 0,.int .i64 0,.int .i64 0,.int .i64 0,.int .i64 0,.int .i64 0,.int .i64 0,.int .i64 0,.int .i64 0],.int .i64 2]) (by simp [results,Tryz.results125,go_sem]) rfl ⟨rfl,(Below.refl _ _).alloc (Nat.le_refl _) _⟩
theorem decode_any (A:Option Addr) (n cap:Nat) (bs:List Nat) (w:World) (hx:Bys w w.heap.size A bs) (hn:bs.length=n) (hc:n≤cap) (hcm:cap≤9223372036854775807) :
  Calls Tryz.prog 125 #[.slice A n cap] w (Decoded (dec bs) w):=by
 by_cases h:n=72
 ·subst h
  obtain ⟨b,off,c,rfl,_⟩:=hx.at_ (j:=0) (by omega)
  by_cases h0:num (seg bs 0 4)=72
  ·exact decode_72 b off cap bs w hx hn hc hcm h0
  ·exact decode_head b off cap _ bs w hx hn hc hcm rfl h0
 ·exact decode_short A n cap bs w hn h
theorem decode_is (A:Option Addr) (n cap B:Nat) (bs:List Nat) (d:Int) (f:Fr) (w:World) (hx:Bys w B A bs) (hB:B≤w.heap.size) (hn:bs.length=n) (hc:n≤cap) (hcm:cap≤9223372036854775807) (h:dec bs=(d,f)) :
  Calls Tryz.prog 125 #[.slice A n cap] w fun e w'=>e = .returned (.tuple #[.agg (fc f),.int .i64 d])∧Below w.heap.size w w':=by
 have:=decode_any A n cap bs w (hx.more hB) hn hc hcm
 rw [h] at this
 exact this
theorem encode_yes_of {e l k b0 b1 b2 b3 b4 b5:Int} {f:Fr} (h:(⟨e,l,k,b0,b1,b2,b3,b4,b5⟩:Fr)=f) (hf:f.fine) (hr:right f=true) (W:World):Calls Tryz.prog 106 #[.agg #[.int .i64 e,.int .i64 l,.int .i64 k,.int .i64 b0,.int .i64 b1,.int .i64 b2,.int .i64 b3,.int .i64 b4,.int .i64 b5]] W (Encoded f W):=by
 subst h;exact encode_yes ⟨e,l,k,b0,b1,b2,b3,b4,b5⟩ hf W hr
theorem right_of {e l k b0 b1 b2 b3 b4 b5:Int} {f:Fr} {r:Bool} (h:(⟨e,l,k,b0,b1,b2,b3,b4,b5⟩:Fr)=f) (hr:right f=r) (W:World):Calls Tryz.prog 128 #[.agg #[.int .i64 e,.int .i64 l,.int .i64 k,.int .i64 b0,.int .i64 b1,.int .i64 b2,.int .i64 b3,.int .i64 b4,.int .i64 b5]] W fun e w'=>e = .returned (.bool r)∧Below W.heap.size W w':=by
 subst h;exact right_is ⟨e,l,k,b0,b1,b2,b3,b4,b5⟩ r W hr
theorem decode_of {A:Option Addr} {n cap B:Nat} {bs:List Nat} {d:Int} {e l k b0 b1 b2 b3 b4 b5:Int} (W:World) (hx:Bys W B A bs) (hB:B≤W.heap.size) (hn:bs.length=n) (hc:n≤cap) (hcm:cap≤9223372036854775807) (h:dec bs=(d,⟨e,l,k,b0,b1,b2,b3,b4,b5⟩)) :
  Calls Tryz.prog 125 #[.slice A n cap] W fun e' w'=>e' = .returned (.tuple #[.agg #[.int .i64 e,.int .i64 l,.int .i64 k,.int .i64 b0,.int .i64 b1,.int .i64 b2,.int .i64 b3,.int .i64 b4,.int .i64 b5],.int .i64 d])∧Below W.heap.size W w':=decode_is A n cap B bs d ⟨e,l,k,b0,b1,b2,b3,b4,b5⟩ W hx hB hn hc hcm h
theorem eq_of {e l k b0 b1 b2 b3 b4 b5 e' l' k' b0' b1' b2' b3' b4' b5' : Int} {f g:Fr} {r:Bool} (h:(⟨e,l,k,b0,b1,b2,b3,b4,b5⟩:Fr)=f) (h' : (⟨e',l',k',b0',b1',b2',b3',b4',b5'⟩:Fr)=g) (hf:f.fine) (hg:g.fine) (hr:decide (f=g)=r) (W:World) :
  (Op.equalIn 10000 72 (.agg #[.int .i64 e,.int .i64 l,.int .i64 k,.int .i64 b0,.int .i64 b1,.int .i64 b2,.int .i64 b3,.int .i64 b4,.int .i64 b5]) (.agg #[.int .i64 e',.int .i64 l',.int .i64 k',.int .i64 b0',.int .i64 b1',.int .i64 b2',.int .i64 b3',.int .i64 b4',.int .i64 b5'])).run Tryz.prog W = .ok r W:=by
 subst h h'
 rw [← hr]
 exact run_eq9 ⟨e,l,k,b0,b1,b2,b3,b4,b5⟩ ⟨e',l',k',b0',b1',b2',b3',b4',b5'⟩ hf hg W
end Go.Proofs.YtalhdalinpdanaaGreatDoor.frame
end
section
namespace Go.Proofs.YtalhdalinpdanaaGreatDoor
set_option maxRecDepth 20000
open Go.RowKit
theorem leaf_frame:Leaf rdFrame:=fun _ _ cs f ⟨h,_⟩ c hc=>by
 rw [h] at hc
 simp [frame.fc] at hc
 rcases hc with rfl | rfl | rfl | rfl | rfl | rfl | rfl | rfl | rfl<;>rfl
abbrev Frs (w:World) (B:Nat) (A:Option Addr) (l:List frame.Fr):Prop:=Elems rdFrame 9 w (Lt B) A l
theorem Frs.below {w w' : World} {B:Nat} {A:Option Addr} {l:List frame.Fr} (h:Frs w B A l) (hb:Below B w w'):Frs w' B A l:=Elems.keep keeps_frame h (below_alike hb) (fun _ h=>h)
theorem Frs.more {w:World} {B B' : Nat} {A:Option Addr} {l:List frame.Fr} (h:Frs w B A l) (hb:B≤B'):Frs w B' A l:=Elems.keep keeps_frame h (alike_refl _ _) (fun _ h=>Nat.lt_of_lt_of_le h hb)
theorem Frs.nil (w:World) (B:Nat) (A:Option Addr):Frs w B A []:=fun h=>absurd h (by simp)
theorem Frs.drewN {w:World} {B:Nat} {A:Option Addr} {l:List frame.Fr} (h:Frs w B A l) (m:Nat):Frs (w.drewN m) B A l:=h
theorem Frs.at_ {w:World} {B:Nat} {A:Option Addr} {l:List frame.Fr} (h:Frs w B A l) {j:Nat} (hj:j < l.length) :
  ∃ b off e n k b0 b1 b2 b3 b4 b5,A=some ⟨b,off,none⟩∧b < B∧Hid (l[j]?=some ⟨e,n,k,b0,b1,b2,b3,b4,b5⟩) ∧
   w.cell? ⟨b,off+j * 9,none⟩=some (.int .i64 e)∧w.cell? ⟨b,off+j * 9+1,none⟩=some (.int .i64 n)∧w.cell? ⟨b,off+j * 9+2,none⟩=some (.int .i64 k) ∧
   w.cell? ⟨b,off+j * 9+3,none⟩=some (.int .i64 b0)∧w.cell? ⟨b,off+j * 9+4,none⟩=some (.int .i64 b1)∧w.cell? ⟨b,off+j * 9+5,none⟩=some (.int .i64 b2) ∧
   w.cell? ⟨b,off+j * 9+6,none⟩=some (.int .i64 b3)∧w.cell? ⟨b,off+j * 9+7,none⟩=some (.int .i64 b4)∧w.cell? ⟨b,off+j * 9+8,none⟩=some (.int .i64 b5) ∧
   Hid ((⟨e,n,k,b0,b1,b2,b3,b4,b5⟩:frame.Fr).fine):=by
 obtain ⟨b,off,e,hb,hc⟩:=h (by omega)
 obtain ⟨cs,hl,hcs,rfl,hf⟩:=hc j l[j] (List.getElem?_eq_getElem hj)
 exact ⟨b,off,_,_,_,_,_,_,_,_,_,e,hb,Lib.hid (List.getElem?_eq_getElem hj),hcs 0 _ rfl,hcs 1 _ rfl,hcs 2 _ rfl,hcs 3 _ rfl,hcs 4 _ rfl,hcs 5 _ rfl,hcs 6 _ rfl,hcs 7 _ rfl,hcs 8 _ rfl,Lib.hid hf⟩
theorem Frs.fine {w:World} {B:Nat} {A:Option Addr} {l:List frame.Fr} (h:Frs w B A l):∀ f ∈ l,f.fine:=by
 intro f hf
 obtain ⟨j,hj,rfl⟩:=List.getElem_of_mem hf
 obtain ⟨b,off,e,hb,hc⟩:=h (by omega)
 obtain ⟨cs,hl,hcs,_,hf⟩:=hc j l[j] (List.getElem?_eq_getElem hj)
 exact hf
theorem Frs.take {w:World} {B:Nat} {A:Option Addr} {l:List frame.Fr} (h:Frs w B A l) (m:Nat):Frs w B A (l.take m):=fun h0=>by
 obtain ⟨b,off,e,hb,hc⟩:=h (by rw [List.length_take] at h0;omega)
 refine ⟨b,off,e,hb,fun j x hj=>hc j x ?_⟩
 rw [List.getElem?_take] at hj
 split at hj
 ·exact hj
 ·cases hj
abbrev OwnFrs (w:World) (base:Nat) (A:Option Addr) (n c:Nat) (l:List frame.Fr):Prop:=OwnElems rdFrame 9 w base 72 (fun _=>False) A n c l
theorem ownElems_later {α:Type} {R:Rd α} {size:Nat} {w w' : World} {base:Nat} {e:TypeId} {A:Option Addr} {n c:Nat} {l:List α} (hR:Keeps R) (h:OwnElems R size w base e (fun _=>False) A n c l) (hb:Below w.heap.size w w'):OwnElems R size w' base e (fun _=>False) A n c l:=by
 obtain ⟨css,h1,h2,h3⟩:=h
 refine ⟨css,⟨h1.1,?_⟩,h2.keep hR (fun b o hb'=>False.elim hb') (fun _ h=>h),h3⟩
 rcases h1.2 with h0 | ⟨g,cap,cur,hv,k1,k2,k3⟩
 ·exact .inl h0
 ·have hl:g < w.heap.size:=by
   rcases Nat.lt_or_ge g w.heap.size with hl | hg
   ·exact hl
   ·rw [Array.getElem?_eq_none hg] at k2;cases k2
  exact .inr ⟨g,cap,cur,hv,k1,(hb.block g hl).trans k2,k3⟩
namespace scan
open Go.Proofs.YtalhdalinpdanaaGreatDoor.frame
def firstB (f:Fr) (n e:Int):Bool:=right f && decide (f.l=n) && decide (e≤f.e)
theorem row_drop {l:List Fr} {j:Nat} {f:Fr} (h:l[j]?=some f) (n e:Int):row (l.drop j) n e=(firstB f n e && row (l.drop (j+1)) (n+1) f.e):=by
 obtain ⟨hj,rfl⟩:=List.getElem?_eq_some_iff.1 h
 rw [List.drop_eq_getElem_cons hj];rfl
theorem first_of {e l k b0 b1 b2 b3 b4 b5:Int} {f:Fr} {r:Bool} {n ep:Int} (h:(⟨e,l,k,b0,b1,b2,b3,b4,b5⟩:Fr)=f) (hr:firstB f n ep=r) (W:World) :
  Calls Tryz.prog 101 #[.agg #[.int .i64 e,.int .i64 l,.int .i64 k,.int .i64 b0,.int .i64 b1,.int .i64 b2,.int .i64 b3,.int .i64 b4,.int .i64 b5],.int .i64 n,.int .i64 ep] W fun e w'=>e = .returned (.bool r)∧Below W.heap.size W w':=by
 subst hr
 have HR:Hid (∀ r,right f=r→∀ w,Calls Tryz.prog 128 #[.agg #[.int .i64 e,.int .i64 l,.int .i64 k,.int .i64 b0,.int .i64 b1,.int .i64 b2,.int .i64 b3,.int .i64 b4,.int .i64 b5]] w fun e w'=>e = .returned (.bool r)∧Below w.heap.size w w'):=Lib.hid (fun r hr w=>right_of h hr w)
 have hfe:f.e=e:=by rw [← h]
 have hfl:f.l=l:=by rw [← h]
 obtain ⟨r,HRR⟩:∃ r,Hid (right f=r):=⟨_,Lib.hid rfl⟩
 have hv:firstB f n ep=(r && decide (l=n) && decide (ep≤e)):=by unfold firstB;rw [HRR.out,hfe,hfl]
 rw [hv]
 clear hv hfe hfl h
 have HC:=Lib.hid (HR.out r HRR.out)
 clear HR HRR
 rcases r with _ | _
 ·go_enter Tryz.func101,Tryz.ntmps101
  go_wp2_with ((with_reducible refine Calls.mono (HC.out _) ?_);rintro e1 w1 ⟨rfl,hb1⟩)
  go_ret
  exact ⟨retB (by simp),((Below.refl _ _).alloc (Nat.le_refl _) _).trans (hb1.mono (by simp))⟩
 ·by_cases hl:l=n
  ·subst hl
   go_enter Tryz.func101,Tryz.ntmps101
   go_wp2_with ((with_reducible refine Calls.mono (HC.out _) ?_);rintro e1 w1 ⟨rfl,hb1⟩;have hg:w1.heap[W.heap.size]?=some (.cells #[.int .i64 e,.int .i64 l,.int .i64 k,.int .i64 b0,.int .i64 b1,.int .i64 b2,.int .i64 b3,.int .i64 b4,.int .i64 b5] 72 (0,0)):=(hb1.block _ (by simp)).trans (heap_alloc_new W _);have x0:w1.cell? ⟨W.heap.size,0,none⟩=some (.int .i64 e):=(block_cell hg 0 _ rfl).1;have x1:w1.cell? ⟨W.heap.size,1,none⟩=some (.int .i64 l):=(block_cell hg 1 _ rfl).1;clear hg)
   go_ret
   exact ⟨retB (by simp),((Below.refl _ _).alloc (Nat.le_refl _) _).trans (hb1.mono (by simp))⟩
  ·have hq:(l == n)=false:=by simpa using hl
   have hd:decide (l=n)=false:=by simpa using hl
   rw [hd]
   clear hd hl
   go_enter Tryz.func101,Tryz.ntmps101
   go_wp2_with ((with_reducible refine Calls.mono (HC.out _) ?_);rintro e1 w1 ⟨rfl,hb1⟩;have hg:w1.heap[W.heap.size]?=some (.cells #[.int .i64 e,.int .i64 l,.int .i64 k,.int .i64 b0,.int .i64 b1,.int .i64 b2,.int .i64 b3,.int .i64 b4,.int .i64 b5] 72 (0,0)):=(hb1.block _ (by simp)).trans (heap_alloc_new W _);have x0:w1.cell? ⟨W.heap.size,0,none⟩=some (.int .i64 e):=(block_cell hg 0 _ rfl).1;have x1:w1.cell? ⟨W.heap.size,1,none⟩=some (.int .i64 l):=(block_cell hg 1 _ rfl).1;clear hg)
   go_ret
   exact ⟨retB (by simp),((Below.refl _ _).alloc (Nat.le_refl _) _).trans (hb1.mono (by simp))⟩
theorem behind_of {e l k b0 b1 b2 b3 b4 b5:Int} (h:l≤1000000000) (h1:1≤l) (W:World) :
  Calls Tryz.prog 102 #[.agg #[.int .i64 e,.int .i64 l,.int .i64 k,.int .i64 b0,.int .i64 b1,.int .i64 b2,.int .i64 b3,.int .i64 b4,.int .i64 b5]] W fun e' w'=>e' = .returned (.tuple #[.int .i64 (l+1),.int .i64 e])∧Below W.heap.size W w':=by
 go_enter Tryz.func102,Tryz.ntmps102
 go_wp2
 go_quiet (fail)
 go_wp2
 go_ret2
 refine ⟨rfl,?_⟩
 repeat (first | exact Below.refl _ _ | refine below_drewN ?_ _ | refine Below.drew ?_ | refine Below.alloc ?_ (by simp) _)
end scan
end Go.Proofs.YtalhdalinpdanaaGreatDoor
end
section
namespace Go.Proofs.YtalhdalinpdanaaGreatDoor.frame
set_option maxRecDepth 20000
open Go.RowKit Go.Proofs.YtalhdalinpdanaaGreatDoor
def Made (bs:List Nat) (n:Nat) (w:World) (e:Ending) (w' : World):Prop :=
 ∃ A c,e = .returned (.slice A n c)∧OwnBys w' w.heap.size 5 A n c bs∧Below w.heap.size w w'
theorem four_any (v:Nat) (w:World) (hv:v < 18446744073709551616):Calls Tryz.prog 110 #[.int .u64 (v:Int)] w (Made (be 4 v) 4 w):=by
 go_enter Tryz.func110,Tryz.ntmps110
 go_wp2
 go_ret
 refine ⟨_,_,rfl,OwnBys.new (Nat.le_refl _) _ ?_ (be_lt 4 v) rfl (by unfold maxLen;omega),(Below.refl _ _).alloc (Nat.le_refl _) _⟩
 simp [be,toI]
theorem four_is (v:Nat) (z:Int) (w:World) (hz:z=(v:Int)) (hv:v < 18446744073709551616):Calls Tryz.prog 110 #[.int .u64 z] w (Made (be 4 v) 4 w):=by
 subst hz;exact four_any v w hv
theorem be_split (n:Nat):be 4 (n / 4294967296)++be 4 n=be 8 n:=by
 simp [be,Nat.div_div_eq_div_mul]
theorem reight_any (x:Int) (w:World):Calls Tryz.prog 111 #[.int .i64 x] w (Made (be 8 (u x)) 8 w):=by
 have hinfo:Hid ((Tryz.prog.info? 5).map (fun i=>(i.zero,i.size,i.bytes))=some (some (.int .u8 0),1,1)):=Lib.hid (by kernel_rfl)
 have hl:=u_lt x
 go_enter Tryz.func111,Tryz.ntmps111
 go_wp2_with fail
 refine Calls.mono (four_is (u x / 4294967296) _ _ (by rw [wrap_u];simp) (by omega)) ?_
 rintro e w1 ⟨A1,c1,rfl,hown1,hb1⟩
 go_wp2_with fail
 refine Calls.mono (four_is (u x) _ _ (wrap_u x) (by omega)) ?_
 rintro e w2 ⟨A2,c2,rfl,hown2,hb2⟩
 have ho:=own_later hown1 hb2
 have hbb:Below w.heap.size w w2:=hb1.trans (hb2.mono hb1.size)
 go_wp2_with (at_builtin;refine wpList_append_bys rfl (.tmp 6) (.tmp 9) _ rfl w.heap.size 5 Tryz.underlying62 hinfo.out rfl ho rfl hown2.bys (be_len 4 _) (by omega) hbb.size ?_;intro A3 c3 w3 hown3 hgr3 hat3;have hb3:Below w.heap.size w w3:=hbb.grown hgr3 hbb.size (by intro g' hgg;exact (ho.block g' hgg).1);clear hgr3 hat3)
 go_ret
 rw [be_split] at hown3
 exact ⟨A3,c3,rfl,hown3,hb3⟩
end Go.Proofs.YtalhdalinpdanaaGreatDoor.frame
end
section
namespace Go.Proofs.YtalhdalinpdanaaGreatDoor.scan
set_option maxRecDepth 20000
open Go.RowKit Go.Proofs.YtalhdalinpdanaaGreatDoor Go.Proofs.YtalhdalinpdanaaGreatDoor.frame
theorem fr_lit {e l k b0 b1 b2 b3 b4 b5:Int} {f:Fr} (h:(⟨e,l,k,b0,b1,b2,b3,b4,b5⟩:Fr)=f):f.e=e∧f.l=l:=by subst h;exact ⟨rfl,rfl⟩
theorem firstB_right {f:Fr} {n e:Int} (h:firstB f n e=true):right f=true∧f.l=n∧e≤f.e:=by simpa [firstB,and_assoc] using h
set_option maxHeartbeats 2000000 in
theorem row_any (A:Option Addr) (m c:Nat) (l:List Fr) (n ep:Int) (w:World) (hx:Frs w w.heap.size A l) (hm:l.length=m) (hmax:m≤9223372036854775807) :
  Calls Tryz.prog 61 #[.slice A m c,.int .i64 n,.int .i64 ep] w fun e w'=>e = .returned (.bool (row l n ep))∧Below w.heap.size w w':=by
 have HM:Hid (l.length=m):=Lib.hid hm
 obtain ⟨R,HR⟩:∃ R,Hid (row l n ep=R):=⟨_,Lib.hid rfl⟩
 rw [HR.out]
 clear hm
 go_enter Tryz.func61,Tryz.ntmps61
 go_wp2
 go_loopw [1,2,11] (fun s1 s2 i wr => ∃ (j:Nat) (n' e' : Int),j≤m∧i = .int .i64 j∧s1 = .int .i64 n'∧s2 = .int .i64 e'∧Hid (row (l.drop j) n' e'=R)∧Below w.heap.size w wr) (fun _ _ i _=>m - (intOf i).toNat)
 case atStart=>exact ⟨0,n,ep,Nat.zero_le _,rfl,rfl,rfl,Lib.hid (by rw [List.drop_zero];exact HR.out),Below.refl _ _⟩
 case round =>
  obtain ⟨j,n',e',hj,rfl,rfl,rfl,HRR,hbr⟩:=hrel
  by_cases hlt:j < m
  ·obtain ⟨b,off,e,k,kd,b0,b1,b2,b3,b4,b5,rfl,hb,HX,x0,x1,x2,x3,x4,x5,x6,x7,x8,HF⟩:=(hx.below hbr).at_ (j:=j) (by rw [HM.out];exact hlt)
   have hsz:=hbr.size
   have hblt:b < wr.heap.size:=by omega
   obtain ⟨f,HFF⟩:∃ f,Hid ((⟨e,k,kd,b0,b1,b2,b3,b4,b5⟩:Fr)=f):=⟨_,Lib.hid rfl⟩
   obtain ⟨r,Hr⟩:∃ r,Hid (firstB f n' e'=r):=⟨_,Lib.hid rfl⟩
   have HC:=Lib.hid (fun W=>first_of HFF.out Hr.out W)
   have HB:=Lib.hid (fun W=>behind_of (e:=e) (l:=k) (k:=kd) (b0:=b0) (b1:=b1) (b2:=b2) (b3:=b3) (b4:=b4) (b5:=b5) (W:=W))
   have HD:Hid (R=(r && row (l.drop (j+1)) (n'+1) f.e)):=Lib.hid (by rw [← HRR.out,row_drop (by rw [HX.out,HFF.out]),Hr.out])
   have HW:=Lib.hid (hbr.alloc hsz (.cells #[.int .i64 e,.int .i64 k,.int .i64 kd,.int .i64 b0,.int .i64 b1,.int .i64 b2,.int .i64 b3,.int .i64 b4,.int .i64 b5] 72))
   rcases r with _ | _
   ·go_wp2_with ((with_reducible refine Calls.mono (HC.out _) ?_);rintro e1 w1 ⟨rfl,hb1⟩)
    go_ret
    exact ⟨retB (by rw [HD.out];rfl),HW.out.trans (hb1.mono (by simp;omega))⟩
   ·have hr:=firstB_right Hr.out
    have hlit:=fr_lit HFF.out
    have hfit:=right_fit hr.1
    have hk1:1≤k:=by omega
    have hk2:k≤1000000000:=by omega
    have HD2:Hid (row (l.drop (j+1)) (k+1) e=R):=Lib.hid (by rw [HD.out,hlit.1,← hr.2.1,hlit.2];rfl)
    clear hr hlit hfit
    go_wp2_with (first
     |((with_reducible refine Calls.mono (HC.out _) ?_);rintro e1 w1 ⟨rfl,hb1⟩;have hg:w1.heap[wr.heap.size]?=some (.cells #[.int .i64 e,.int .i64 k,.int .i64 kd,.int .i64 b0,.int .i64 b1,.int .i64 b2,.int .i64 b3,.int .i64 b4,.int .i64 b5] 72 (0,0)):=(hb1.block _ (by simp)).trans (heap_alloc_new wr _);have y0:w1.cell? ⟨wr.heap.size,0,none⟩=some (.int .i64 e):=(block_cell hg 0 _ rfl).1;have y1:w1.cell? ⟨wr.heap.size,1,none⟩=some (.int .i64 k):=(block_cell hg 1 _ rfl).1;have y2:w1.cell? ⟨wr.heap.size,2,none⟩=some (.int .i64 kd):=(block_cell hg 2 _ rfl).1;have y3:w1.cell? ⟨wr.heap.size,3,none⟩=some (.int .i64 b0):=(block_cell hg 3 _ rfl).1;have y4:w1.cell? ⟨wr.heap.size,4,none⟩=some (.int .i64 b1):=(block_cell hg 4 _ rfl).1;have y5:w1.cell? ⟨wr.heap.size,5,none⟩=some (.int .i64 b2):=(block_cell hg 5 _ rfl).1;have y6:w1.cell? ⟨wr.heap.size,6,none⟩=some (.int .i64 b3):=(block_cell hg 6 _ rfl).1;have y7:w1.cell? ⟨wr.heap.size,7,none⟩=some (.int .i64 b4):=(block_cell hg 7 _ rfl).1;have y8:w1.cell? ⟨wr.heap.size,8,none⟩=some (.int .i64 b5):=(block_cell hg 8 _ rfl).1;clear hg)
     |((with_reducible refine Calls.mono (HB.out _ hk2 hk1) ?_);rintro e2 w2 ⟨rfl,hb2⟩))
    go_roundw
    case rel=>exact ⟨j+1,k+1,e,by omega,by go_num,rfl,rfl,HD2,(HW.out.trans (hb1.mono (by simp;omega))).trans (hb2.mono (by have:=hb1.size;simp at this;omega))⟩
    case measure=>first | (simp [intOf];done) | (simp [intOf];omega)
  ·have HE:Hid (true=R):=Lib.hid (by rw [← HRR.out,List.drop_of_length_le (by rw [HM.out];omega)];rfl)
   go_wp2
   go_ret
   exact ⟨retB HE.out,hbr⟩
set_option maxHeartbeats 2000000 in
theorem same_any (A:Option Addr) (m c:Nat) (l:List Fr) (A2:Option Addr) (m2 c2:Nat) (l2:List Fr) (w:World) (hx:Frs w w.heap.size A l) (hm:l.length=m) (hx2:Frs w w.heap.size A2 l2) (hm2:l2.length=m2) (hmax:m≤9223372036854775807) (hmax2:m2≤9223372036854775807) :
  Calls Tryz.prog 28 #[.slice A m c,.slice A2 m2 c2] w fun e w'=>e = .returned (.bool (decide (l=l2)))∧∃ q,w'=w.drewN q:=by
 have HM:Hid (l.length=m):=Lib.hid hm
 have HM2:Hid (l2.length=m2):=Lib.hid hm2
 obtain ⟨R,HR⟩:∃ R,Hid (decide (l=l2)=R):=⟨_,Lib.hid rfl⟩
 rw [HR.out]
 clear hm hm2
 by_cases hne:m=m2
 ·subst hne
  go_enter Tryz.func28,Tryz.ntmps28
  go_wp2
  go_loopw [5] (fun i wr => ∃ (j:Nat),j≤m∧i = .int .i64 j∧Hid (l.take j=l2.take j)∧∃ q,wr=w.drewN q) (fun i _=>m - (intOf i).toNat)
  case atStart=>exact ⟨0,Nat.zero_le _,rfl,Lib.hid rfl,0,rfl⟩
  case round =>
   obtain ⟨j,hj,rfl,HT,q,rfl⟩:=hrel
   by_cases hlt:j < m
   ·obtain ⟨b,off,e,k,kd,b0,b1,b2,b3,b4,b5,rfl,hb,HX,x0,x1,x2,x3,x4,x5,x6,x7,x8,HF⟩:=hx.at_ (j:=j) (by rw [HM.out];exact hlt)
    obtain ⟨b',off',e',k',kd',b0',b1',b2',b3',b4',b5',rfl,hb',HX',x0',x1',x2',x3',x4',x5',x6',x7',x8',HF'⟩:=hx2.at_ (j:=j) (by rw [HM2.out];exact hlt)
    obtain ⟨f,HFF⟩:∃ f,Hid ((⟨e,k,kd,b0,b1,b2,b3,b4,b5⟩:Fr)=f):=⟨_,Lib.hid rfl⟩
    obtain ⟨g,HGG⟩:∃ f,Hid ((⟨e',k',kd',b0',b1',b2',b3',b4',b5'⟩:Fr)=f):=⟨_,Lib.hid rfl⟩
    obtain ⟨r,Hr⟩:∃ r,Hid (decide (f=g)=r):=⟨_,Lib.hid rfl⟩
    have heq:=fun W=>eq_of HFF.out HGG.out (by rw [← HFF.out];exact HF.out) (by rw [← HGG.out];exact HF'.out) Hr.out W
    have h1:=HX.out
    have h2:=HX'.out
    rw [HFF.out] at h1
    rw [HGG.out] at h2
    rcases r with _ | _
    ·have HE:Hid (false=R):=Lib.hid (by
      rw [← HR.out];symm
      simp only [decide_eq_false_iff_not]
      rintro rfl
      have:=Hr.out
      rw [h1] at h2
      injection h2 with h2
      simp [h2] at this)
     clear h1 h2
     go_wp2
     go_quiet (fail)
     go_wp2
     go_ret
     exact ⟨retB HE.out,q+nq,by simp⟩
    ·have HE:Hid (l.take (j+1)=l2.take (j+1)):=Lib.hid (by
      have:=Hr.out
      simp only [decide_eq_true_eq] at this
      rw [List.take_add_one,List.take_add_one,HT.out,h1,h2,this])
     clear h1 h2
     go_wp2
     go_quiet (fail)
     go_wp2
     go_roundw
     case rel=>exact ⟨j+1,by omega,by go_num,HE,_,rfl⟩
     case measure=>first | (simp [intOf];done) | (simp [intOf];omega)
   ·have HE:Hid (true=R):=Lib.hid (by
     have:=HT.out
     rw [List.take_of_length_le (by rw [HM.out];omega),List.take_of_length_le (by rw [HM2.out];omega)] at this
     rw [← HR.out,this];simp)
    go_wp2
    go_ret
    exact ⟨retB HE.out,q,rfl⟩
 ·have HE:Hid (false=R):=Lib.hid (by
   rw [← HR.out];symm
   simp only [decide_eq_false_iff_not]
   rintro rfl
   exact hne (by rw [← HM.out,← HM2.out]))
  have hq:((m:Int) != (m2:Int))=true:=by simp;omega
  have hq2:(m != m2)=true:=by simpa using hne
  clear hne
  go_enter Tryz.func28,Tryz.ntmps28
  go_wp2
  go_ret
  exact ⟨retB HE.out,0,rfl⟩
end Go.Proofs.YtalhdalinpdanaaGreatDoor.scan
end
section
namespace Go.Proofs.YtalhdalinpdanaaGreatDoor.scan
set_option maxRecDepth 20000
open Go.RowKit Go.Proofs.YtalhdalinpdanaaGreatDoor Go.Proofs.YtalhdalinpdanaaGreatDoor.frame
def all (b:List Nat) (n e:Int):List Fr:=scan b.length b n e
theorem all_short {b:List Nat} (h:b.length < 72) (n e:Int):all b n e=[]:=scan_short h _ _ _
theorem all_yes {b:List Nat} {f:Fr} {n e:Int} (h:72≤b.length) (hd:dec (b.take 72)=(0,f)) (hf:firstB f n e=true):all b n e=f :: all (b.drop 72) (n+1) f.e:=by
 have hr:=firstB_right hf
 unfold all
 obtain ⟨k,hk⟩:∃ k,b.length=k+1:=⟨b.length - 1,by omega⟩
 rw [show scan b.length b n e=scan (k+1) b n e by rw [hk]]
 simp only [scan]
 rw [hd,if_pos ⟨h,rfl,hr.2.1,hr.2.2⟩]
 congr 1
 exact scan_fuel _ _ _ _ _ (by rw [List.length_drop];omega) (by omega)
theorem all_no {b:List Nat} {d:Int} {f:Fr} {n e:Int} (hb:∀ x ∈ b,x < 256) (hd:dec (b.take 72)=(d,f)) (hf:d≠0∨firstB f n e=false):all b n e=[]:=by
 unfold all
 rcases hk:b.length with _ | k
 ·rfl
 simp only [scan]
 rw [if_neg]
 rintro ⟨h1,h2,h3,h4⟩
 rw [hd] at h2 h3 h4
 rcases hf with h | h
 ·exact h h2
 ·have:=(dec_ok (l:=b.take 72) (fun x hx=>hb x (List.mem_of_mem_take hx)) (by rw [hd];exact h2)).1
  rw [hd] at this
  unfold firstB at h
  simp only at h3 h4 this
  simp [this,h3,h4] at h
def Scanned (l:List Fr) (w:World) (e:Ending) (w' : World):Prop :=
 ∃ A n c,e = .returned (.tuple #[.slice A n c,.int .i64 ((n:Int) * 72)])∧OwnFrs w' w.heap.size A n c l∧Hid (l.length=n)∧Below w.heap.size w w'
set_option maxHeartbeats 4000000 in
theorem scan_any (A:Option Addr) (m c:Nat) (bs:List Nat) (n ep:Int) (w:World) (hx:Bys w w.heap.size A bs) (hm:bs.length=m) (hc:m≤c) (hcm:c≤9223372036854775807) (hmax:m≤100000) :
  Calls Tryz.prog 92 #[.slice A m c,.int .i64 n,.int .i64 ep] w (Scanned (all bs n ep) w):=by
 obtain ⟨R,HR⟩:∃ R,Hid (all bs n ep=R):=⟨_,Lib.hid rfl⟩
 rw [HR.out]
 have HX0:=Lib.hid hx
 have hinfo:Hid ((Tryz.prog.info? 72).map (fun i=>(i.zero,i.size,i.bytes))=some (some (.agg #[.int .i64 0,.int .i64 0,.int .i64 0,.int .i64 0,.int .i64 0,.int .i64 0,.int .i64 0,.int .i64 0,.int .i64 0]),9,72)):=Lib.hid (by kernel_rfl)
 have hinfb:Hid ((Tryz.prog.info? 5).map (fun i=>(i.zero,i.size,i.bytes))=some (some (.int .u8 0),1,1)):=Lib.hid (by kernel_rfl)
 have HM:=Lib.hid hm
 clear hx hm
 go_enter Tryz.func92,Tryz.ntmps92
 go_wp2
 go_loopw [0,1,2,8] (fun s0 s1 s2 s8 wr => ∃ (A1 A2:Option Addr) (m1 c1 j c2:Nat) (b1:List Nat) (n' e' : Int) (acc:List Fr),s0 = .slice A1 m1 c1∧s1 = .int .i64 n'∧s2 = .int .i64 e'∧s8 = .slice A2 j c2∧72 * j+m1≤100000∧m1≤c1∧c1≤9223372036854775807 ∧
  Hid (Bys w w.heap.size A1 b1)∧Hid (b1.length=m1)∧Hid (OwnFrs wr w.heap.size A2 j c2 acc)∧Hid (acc++all b1 n' e'=R)∧Below w.heap.size w wr) (fun s0 _ _ _ _=>(match s0 with | .slice _ k _=>k | _=>0))
 case atStart=>exact ⟨A,none,m,c,0,0,bs,n,ep,[],rfl,rfl,rfl,rfl,by omega,hc,hcm,HX0,HM,Lib.hid OwnElems.nil,Lib.hid (by rw [← HR.out];rfl),Below.refl _ _⟩
 case round =>
  obtain ⟨A1,A2,m1,c1,j,c2,b1,n',e',acc,rfl,rfl,rfl,rfl,hjm,hmc,hcm1,HX,HN,HO,HA,hbr⟩:=hrel
  have hj9:j≤100000:=by omega
  have hw72:IntKind.i64.wrap ((j:Int) * 72)=(j:Int) * 72:=IntWalk.i64_in _ (by omega)
  by_cases hlt:m1 < 72
  ·have HE:Hid (acc=R):=Lib.hid (by rw [← HA.out,all_short (by rw [HN.out];exact hlt),List.append_nil])
   go_wp2
   go_ret2
   exact ⟨A2,j,c2,rfl,by rw [← HE.out];exact HO.out,Lib.hid (by rw [← HE.out];exact OwnElems.len HO.out),hbr⟩
  ·have hge:72≤m1:=by omega
   obtain ⟨b,off,x,rfl,_⟩:=HX.out.at_ (j:=0) (by rw [HN.out];omega)
   clear hlt
   obtain ⟨d,F,HD⟩:∃ d F,Hid (dec (b1.take 72)=(d,F)):=⟨_,_,Lib.hid rfl⟩
   have hfine:F.fine:=by have:=dec_fine (l:=b1.take 72) (fun x hx=>HX.out.lt x (List.mem_of_mem_take hx));rw [HD.out] at this;exact this
   obtain ⟨e,k,kd,q0,q1,q2,q3,q4,q5⟩:=F
   have HDC:Hid (∀ W,Below w.heap.size w W→Calls Tryz.prog 125 #[.slice (some ⟨b,off,none⟩) 72 c1] W fun e' w'=>e' = .returned (.tuple #[.agg #[.int .i64 e,.int .i64 k,.int .i64 kd,.int .i64 q0,.int .i64 q1,.int .i64 q2,.int .i64 q3,.int .i64 q4,.int .i64 q5],.int .i64 d])∧Below W.heap.size W w') :=
    Lib.hid (fun W hb=>decode_of W (((HX.out.take 72)).below hb) hb.size (by rw [List.length_take,HN.out];omega) (by omega) hcm1 HD.out)
   obtain ⟨f,HFF⟩:∃ f,Hid ((⟨e,k,kd,q0,q1,q2,q3,q4,q5⟩:Fr)=f):=⟨_,Lib.hid rfl⟩
   have HFN:=Lib.hid hfine
   clear hfine
   have hsz:=hbr.size
   have HBR:=Lib.hid hbr
   clear hbr
   by_cases hd:d=0
   ·subst hd
    obtain ⟨r,Hr⟩:∃ r,Hid (firstB f n' e'=r):=⟨_,Lib.hid rfl⟩
    have HC:=Lib.hid (fun W=>first_of HFF.out Hr.out W)
    go_wp2_with fail
    refine Calls.mono (HDC.out _ HBR.out) ?_
    rintro e1 w1 ⟨rfl,hb1⟩
    have HB1:=Lib.hid (HBR.out.trans (hb1.mono hsz))
    have HO1:Hid (OwnFrs w1 w.heap.size A2 j c2 acc):=Lib.hid (ownElems_later keeps_frame HO.out hb1)
    have hsz1:w.heap.size≤w1.heap.size:=HB1.out.size
    clear hb1
    go_wp2_with fail
    refine Calls.mono (HC.out _) ?_
    rintro e2 w2 ⟨rfl,hb2⟩
    have hg:w2.heap[w1.heap.size]?=some (.cells #[.int .i64 e,.int .i64 k,.int .i64 kd,.int .i64 q0,.int .i64 q1,.int .i64 q2,.int .i64 q3,.int .i64 q4,.int .i64 q5] 72 (0,0)):=(hb2.block _ (by simp)).trans (heap_alloc_new w1 _)
    have HG2:=Lib.hid hg
    have y0:w2.cell? ⟨w1.heap.size,0,none⟩=some (.int .i64 e):=(block_cell hg 0 _ rfl).1
    have y1:w2.cell? ⟨w1.heap.size,1,none⟩=some (.int .i64 k):=(block_cell hg 1 _ rfl).1
    have y2:w2.cell? ⟨w1.heap.size,2,none⟩=some (.int .i64 kd):=(block_cell hg 2 _ rfl).1
    have y3:w2.cell? ⟨w1.heap.size,3,none⟩=some (.int .i64 q0):=(block_cell hg 3 _ rfl).1
    have y4:w2.cell? ⟨w1.heap.size,4,none⟩=some (.int .i64 q1):=(block_cell hg 4 _ rfl).1
    have y5:w2.cell? ⟨w1.heap.size,5,none⟩=some (.int .i64 q2):=(block_cell hg 5 _ rfl).1
    have y6:w2.cell? ⟨w1.heap.size,6,none⟩=some (.int .i64 q3):=(block_cell hg 6 _ rfl).1
    have y7:w2.cell? ⟨w1.heap.size,7,none⟩=some (.int .i64 q4):=(block_cell hg 7 _ rfl).1
    have y8:w2.cell? ⟨w1.heap.size,8,none⟩=some (.int .i64 q5):=(block_cell hg 8 _ rfl).1
    have hsz12:w1.heap.size < w2.heap.size:=cell_block y0
    have HB2:=Lib.hid ((HB1.out.alloc hsz1 (.cells #[.int .i64 e,.int .i64 k,.int .i64 kd,.int .i64 q0,.int .i64 q1,.int .i64 q2,.int .i64 q3,.int .i64 q4,.int .i64 q5] 72)).trans (hb2.mono (by simp;omega)))
    have HO2w:Hid (OwnFrs w2 w.heap.size A2 j c2 acc):=Lib.hid (ownElems_later keeps_frame (ownElems_later keeps_frame HO1.out ((Below.refl _ _).alloc (Nat.le_refl _) _)) hb2)
    have HO2:Hid (∀ o,OwnFrs (w2.alloc o) w.heap.size A2 j c2 acc):=Lib.hid (fun o=>ownElems_later keeps_frame (ownElems_later keeps_frame (ownElems_later keeps_frame HO1.out ((Below.refl _ _).alloc (Nat.le_refl _) _)) hb2) ((Below.refl _ _).alloc (Nat.le_refl _) _))
    clear hb2 hg
    rcases r with _ | _
    ·have HE:Hid (acc=R):=Lib.hid (by rw [← HA.out,all_no HX.out.lt HD.out (.inr (by rw [HFF.out];exact Hr.out)),List.append_nil])
     go_wp2
     go_ret2
     exact ⟨A2,j,c2,rfl,by rw [← HE.out];exact HO2w.out,Lib.hid (by rw [← HE.out];exact OwnElems.len HO.out),HB2.out⟩
    ·have hr:=firstB_right Hr.out
     have hlit:=fr_lit HFF.out
     have hfit:=right_fit hr.1
     have hk1:1≤k:=by omega
     have hk2:k≤1000000000:=by omega
     have HE:Hid ((acc++[⟨e,k,kd,q0,q1,q2,q3,q4,q5⟩])++all (b1.drop 72) (k+1) e=R):=Lib.hid (by
      rw [← HA.out,all_yes (by rw [HN.out];exact hge) HD.out (by rw [HFF.out];exact Hr.out),List.append_assoc,show n'=k by rw [← hr.2.1,hlit.2]];rfl)
     clear hr hlit hfit
     have HB:=Lib.hid (fun W=>behind_of (e:=e) (l:=k) (k:=kd) (b0:=q0) (b1:=q1) (b2:=q2) (b3:=q3) (b4:=q4) (b5:=q5) hk2 hk1 W)
     obtain ⟨A4,HA4⟩:∃ A4,Hid (cutAt (some ⟨b,off,none⟩) c1 72 1=A4):=⟨_,Lib.hid rfl⟩
     have hcut:∀ W,(Instr.slice 62 (.slice (some ⟨b,off,none⟩) m1 c1) (some (.int .i64 72)) none none).run Tryz.prog W = .ok (.slice A4 (m1 - 72) (c1 - 72)) W:=fun W=>by
      rw [← HA4.out];exact run_cut_from (P:=Tryz.prog) 62 5 1 1 _ Tryz.underlying62 hinfb.out _ m1 c1 72 hge W
     have HX4:Hid (Bys w w.heap.size A4 (b1.drop 72)):=Lib.hid (by rw [← HA4.out];exact HX.out.cut 72 c1 (by rw [HN.out];exact hmc))
     have hsz2:w.heap.size≤w2.heap.size:=by omega
     go_wp2_with (at_builtin;refine wpList_append_elems rfl (.tmp 29) (.tmp 31) _ rfl keeps_frame leaf_frame (by decide) w.heap.size 72 _ 72 Tryz.underlying22 hinfo.out rfl rfl (HO2.out _) rfl (each_one (R:=rdFrame) rfl (x:=(⟨e,k,kd,q0,q1,q2,q3,q4,q5⟩:Fr)) ⟨rfl,HFN.out⟩) (cells_new rfl 1) rfl (fun _ h=>h) (fun _ h=>False.elim h) (by unfold maxLen;omega) (by omega) (by simp;omega) ?_;intro A3 c3 w3 hown3 hgr3 hat3;have HO3:=Lib.hid hown3;have hg3:w3.heap[w1.heap.size]?=some (.cells #[.int .i64 e,.int .i64 k,.int .i64 kd,.int .i64 q0,.int .i64 q1,.int .i64 q2,.int .i64 q3,.int .i64 q4,.int .i64 q5] 72 (0,0)):=((hgr3.block _ (by simp;omega) (fun hh=>by have:=(HO1.out.block _ hh.symm).2;omega)).trans (Below.heap_alloc _ _ _ hsz12)).trans HG2.out;have HG3:=Lib.hid hg3;have HB3:Hid (Below w.heap.size w w3):=Lib.hid ((HB2.out.alloc hsz2 _).grown hgr3 (by simp;omega) (fun g hg=>((HO2.out (.cells #[] 0)).block g hg).1));have z0:w3.cell? ⟨w1.heap.size,0,none⟩=some (.int .i64 e):=(block_cell hg3 0 _ rfl).1;have z1:w3.cell? ⟨w1.heap.size,1,none⟩=some (.int .i64 k):=(block_cell hg3 1 _ rfl).1;have z2:w3.cell? ⟨w1.heap.size,2,none⟩=some (.int .i64 kd):=(block_cell hg3 2 _ rfl).1;have z3:w3.cell? ⟨w1.heap.size,3,none⟩=some (.int .i64 q0):=(block_cell hg3 3 _ rfl).1;have z4:w3.cell? ⟨w1.heap.size,4,none⟩=some (.int .i64 q1):=(block_cell hg3 4 _ rfl).1;have z5:w3.cell? ⟨w1.heap.size,5,none⟩=some (.int .i64 q2):=(block_cell hg3 5 _ rfl).1;have z6:w3.cell? ⟨w1.heap.size,6,none⟩=some (.int .i64 q3):=(block_cell hg3 6 _ rfl).1;have z7:w3.cell? ⟨w1.heap.size,7,none⟩=some (.int .i64 q4):=(block_cell hg3 7 _ rfl).1;have z8:w3.cell? ⟨w1.heap.size,8,none⟩=some (.int .i64 q5):=(block_cell hg3 8 _ rfl).1;clear hg3 hgr3 hat3 hown3)
     go_wp2_with fail
     refine Calls.mono (HB.out _) ?_
     rintro e4 w4 ⟨rfl,hb4⟩
     have HB4:=Lib.hid (HB3.out.trans (hb4.mono HB3.out.size))
     have HO4:=Lib.hid (ownElems_later keeps_frame HO3.out hb4)
     clear hb4
     go_wp2
     go_roundw
     case rel=>exact ⟨A4,A3,m1 - 72,c1 - 72,j+1,c3,b1.drop 72,k+1,e,acc++[⟨e,k,kd,q0,q1,q2,q3,q4,q5⟩],rfl,rfl,rfl,rfl,by omega,by omega,by omega,HX4,Lib.hid (by rw [List.length_drop,HN.out]),HO4,HE,HB4⟩
     case measure=>first | (simp;done) | (simp;omega)
   ·have hd2:(d != 0)=true:=by simpa using hd
    have HE:Hid (acc=R):=Lib.hid (by rw [← HA.out,all_no HX.out.lt HD.out (.inl hd),List.append_nil])
    clear hd
    go_wp2_with fail
    refine Calls.mono (HDC.out _ HBR.out) ?_
    rintro e1 w1 ⟨rfl,hb1⟩
    have HB1:=Lib.hid (HBR.out.trans (hb1.mono hsz))
    have HO1:Hid (OwnFrs w1 w.heap.size A2 j c2 acc):=Lib.hid (ownElems_later keeps_frame HO.out hb1)
    have hsz1:w.heap.size≤w1.heap.size:=HB1.out.size
    clear hb1
    go_wp2
    go_ret2
    exact ⟨A2,j,c2,rfl,by rw [← HE.out];exact ownElems_later keeps_frame HO1.out ((Below.refl _ _).alloc (Nat.le_refl _) _),Lib.hid (by rw [← HE.out];exact OwnElems.len HO.out),HB1.out.alloc hsz1 _⟩
end Go.Proofs.YtalhdalinpdanaaGreatDoor.scan
end
