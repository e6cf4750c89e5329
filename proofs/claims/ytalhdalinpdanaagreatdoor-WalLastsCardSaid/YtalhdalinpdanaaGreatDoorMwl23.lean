/-
  FrameImpl3
-/
import Derived.Test.YtalhdalinpdanaaGreatDoorMwl22
import Derived.Test.YtalhdalinpdanaaGreatDoorMwl07
import Derived.Deep.RegionHeld3
import Derived.Deep.DeepCutAuto
set_option linter.unusedVariables false
set_option linter.unusedSimpArgs false
namespace Go.Proofs.YtalhdalinpdanaaGreatDoor.frame
set_option maxRecDepth 20000
open Go.RowKit Go.Proofs.YtalhdalinpdanaaGreatDoor
theorem Bys.from_ {w:World} {B b off:Nat} {bs:List Nat} (h:Bys w B (some ⟨b,off,none⟩) bs) (a:Nat):Bys w B (some ⟨b,off+a,none⟩) (bs.drop a):=by
 refine ⟨fun x hx=>h.1 x (by rw [toI_drop] at hx;exact List.mem_of_mem_drop hx),fun hn=>?_⟩
 rw [toI_len,List.length_drop] at hn
 obtain ⟨b',off',e,hlt,hc⟩:=h.2 (by rw [toI_len];omega)
 simp only [Option.some.injEq,Addr.mk.injEq,and_true] at e
 obtain ⟨rfl,rfl⟩:=e
 refine ⟨_,_,rfl,hlt,fun j hj=>?_⟩
 rw [toI_len,List.length_drop] at hj
 rw [Nat.add_assoc,hc (a+j) (by rw [toI_len];omega),toI_drop]
 simp [List.getD,List.getElem?_drop]
theorem Bys.seg_ {w:World} {B b off:Nat} {bs:List Nat} (h:Bys w B (some ⟨b,off,none⟩) bs) (a n:Nat):Bys w B (some ⟨b,off+a,none⟩) (seg bs a n):=(Bys.from_ h a).take n
def Decoded (r:Int × Fr) (w:World) (e:Ending) (w' : World):Prop:=e = .returned (.tuple #[.agg (fc r.2),.int .i64 r.1])∧Below w.heap.size w w'
theorem decode_short (A:Option Addr) (n cap:Nat) (bs:List Nat) (w:World) (hn:bs.length=n) (h:n≠72):Calls Tryz.prog 125 #[.slice A n cap] w (Decoded (dec bs) w):=by
 have hd:dec bs=(2,zero):=by unfold dec;rw [if_pos (.inl (by omega))]
 rw [hd]
 have ht:((n:Int) != 72)=true:=by simp;omega
 clear hd hn h
 go_enter Tryz.func125,Tryz.ntmps125
 go_wp2
 exact bodyPost_ret (v:=.tuple #[.agg #[.int .i64 0,.int .i64 0,.int .i64 0,.int .i64 0,.int .i64 0,.int .i64 0,.int .i64 0,.int .i64 0,.int .i64 0],.int .i64 2]) (by simp [results,Tryz.results125,go_sem]) rfl ⟨rfl,(Below.refl _ _).alloc (Nat.le_refl _) _⟩
theorem number_seg {w:World} {b off:Nat} {bs:List Nat} (hx:Bys w w.heap.size (some ⟨b,off,none⟩) bs) (hn:bs.length=72) (a n v:Nat) (ha:a+n≤72) (h8:n≤8) (hv:num (seg bs a n)=v) (o c:Nat) (ho:off+a=o) (W:World) (hb:Below w.heap.size w W) :
  Calls Tryz.prog 150 #[.slice (some ⟨b,o,none⟩) n c] W fun e w'=>e = .returned (.int .u64 (v:Int))∧W=w':=by
 subst ho hv
 exact number_any _ n c w.heap.size _ W ((Bys.seg_ hx a n).below hb) (seg_len bs a n (by omega)) h8
theorem run_array4 (W:World) (b o c:Nat):(Instr.arrayAt 178 (.slice (some ⟨b,o,none⟩) 4 c)).run Tryz.prog W = .ok (.pointer (some ⟨b,o,none⟩)) W:=by
 simp [Instr.arrayAt,go_sem]
theorem le4_seg {bs:List Nat} {x0 x1 x2 x3 s:Nat} (X0:bs[68]?=some x0) (X1:bs[69]?=some x1) (X2:bs[70]?=some x2) (X3:bs[71]?=some x3):seg bs 68 4=le4 s ↔ (x0=s % 256∧x1=s / 256 % 256∧x2=s / 65536 % 256∧x3=s / 16777216 % 256):=by
 have e:seg bs 68 4=[x0,x1,x2,x3]:=by
  unfold seg
  apply List.ext_getElem?
  intro i
  rw [List.getElem?_take,List.getElem?_drop]
  match i with
  | 0=>simpa using X0
  | 1=>simpa using X1
  | 2=>simpa using X2
  | 3=>simpa using X3
  |i+4=>rw [if_neg (by omega)];simp
 rw [e]
 simp [le4]
def part (f:Fr) (j:Nat):List Value:=[.int .i64 f.e,.int .i64 f.l,.int .i64 f.k]++((List.range j).map fun i=>Value.int .i64 (f.body i))++List.replicate (6 - j) (.int .i64 0)
theorem part_zero (f:Fr):(part f 0).toArray=#[.int .i64 f.e,.int .i64 f.l,.int .i64 f.k,.int .i64 0,.int .i64 0,.int .i64 0,.int .i64 0,.int .i64 0,.int .i64 0]:=rfl
theorem part_all (f:Fr):(part f 6).toArray=fc f:=rfl
theorem part_set (f:Fr) (j:Nat) (hj:j < 6):(part f j).set (3+j) (.int .i64 (f.body j))=part f (j+1):=by
 rcases (show j=0∨j=1∨j=2∨j=3∨j=4∨j=5 by omega) with rfl | rfl | rfl | rfl | rfl | rfl<;>rfl
theorem body_parse (bs:List Nat) (j:Nat) (hj:j < 6):(parse bs).body j=sg (num (seg bs (20+8 * j) 8)):=by
 rcases (show j=0∨j=1∨j=2∨j=3∨j=4∨j=5 by omega) with rfl | rfl | rfl | rfl | rfl | rfl<;>rfl
theorem wrap_sg {n:Nat} (h:n < 18446744073709551616):IntKind.i64.wrap (n:Int)=sg n:=by
 rw [IntKind.wrap_i64];unfold sg;split<;>omega
set_option maxHeartbeats 2000000 in
theorem decode_72 (b off cap:Nat) (bs:List Nat) (w:World) (hx:Bys w w.heap.size (some ⟨b,off,none⟩) bs) (hn:bs.length=72) (hc:72≤cap) (hcm:cap≤9223372036854775807) (h0:num (seg bs 0 4)=72) :
  Calls Tryz.prog 125 #[.slice (some ⟨b,off,none⟩) 72 cap] w (Decoded (dec bs) w):=by
 have HN0:Hid (∀ W c,Below w.heap.size w W→Calls Tryz.prog 150 #[.slice (some ⟨b,off,none⟩) 4 c] W fun e w'=>e = .returned (.int .u64 72)∧W=w'):=Lib.hid (fun W c hb=>number_seg hx hn 0 4 72 (by omega) (by omega) h0 off c rfl W hb)
 obtain ⟨s,HS⟩:∃ s,Hid (crc.more 0 (bs.take 68)=s):=⟨_,Lib.hid rfl⟩
 obtain ⟨s0,H0⟩:∃ s0,Hid (s % 256=s0):=⟨_,Lib.hid rfl⟩
 obtain ⟨s1,H1⟩:∃ s1,Hid (s / 256 % 256=s1):=⟨_,Lib.hid rfl⟩
 obtain ⟨s2,H2⟩:∃ s2,Hid (s / 65536 % 256=s2):=⟨_,Lib.hid rfl⟩
 obtain ⟨s3,H3⟩:∃ s3,Hid (s / 16777216 % 256=s3):=⟨_,Lib.hid rfl⟩
 have HCK:Hid (∀ W,Below w.heap.size w W→Calls Tryz.prog 131 #[.slice (some ⟨b,off,none⟩) 72 cap] W fun e w'=>e = .returned (.agg #[.int .u8 (s0:Int),.int .u8 (s1:Int),.int .u8 (s2:Int),.int .u8 (s3:Int)])∧Below W.heap.size W w'):=Lib.hid (fun W hb=>by rw [← H0.out,← H1.out,← H2.out,← H3.out];exact checked_any _ cap w.heap.size bs s W (hx.below hb) hb.size hn hc hcm HS.out)
 obtain ⟨b0,o0,x0,e0,hb0,X0,c0,l0⟩:=hx.at_ (j:=68) (by omega)
 obtain ⟨b1,o1,x1,e1,hb1,X1,c1,l1⟩:=hx.at_ (j:=69) (by omega)
 obtain ⟨b2,o2,x2,e2,hb2,X2,c2,l2⟩:=hx.at_ (j:=70) (by omega)
 obtain ⟨b3,o3,x3,e3,hb3,X3,c3,l3⟩:=hx.at_ (j:=71) (by omega)
 simp only [Option.some.injEq,Addr.mk.injEq,and_true] at e0 e1 e2 e3
 obtain ⟨rfl,rfl⟩:=e0
 obtain ⟨rfl,rfl⟩:=e1
 obtain ⟨rfl,rfl⟩:=e2
 obtain ⟨rfl,rfl⟩:=e3
 obtain ⟨q,HQ⟩:∃ q:Bool,Hid (decide (x0=s0∧x1=s1∧x2=s2∧x3=s3)=q):=⟨_,Lib.hid rfl⟩
 have heq:∀ W,(Op.equalIn 10000 178 (.agg #[.int .u8 (x0:Int),.int .u8 (x1:Int),.int .u8 (x2:Int),.int .u8 (x3:Int)]) (.agg #[.int .u8 (s0:Int),.int .u8 (s1:Int),.int .u8 (s2:Int),.int .u8 (s3:Int)])).run Tryz.prog W = .ok q W:=fun W=>by
  rw [run_eq4 _ _ _ _ _ _ _ _ ⟨l0,l1,l2,l3⟩ ⟨by rw [← H0.out];exact Nat.mod_lt _ (by omega),by rw [← H1.out];exact Nat.mod_lt _ (by omega),by rw [← H2.out];exact Nat.mod_lt _ (by omega),by rw [← H3.out];exact Nat.mod_lt _ (by omega)⟩ W,HQ.out]
 obtain ⟨F,HF⟩:∃ F,Hid (parse bs=F):=⟨_,Lib.hid rfl⟩
 have HD:Hid (dec bs=if q=true then (if right F=true then (0,F) else (2,zero)) else (10,zero)):=Lib.hid (by
  have h4:=le4_seg (s:=s) X0.out X1.out X2.out X3.out
  rw [H0.out,H1.out,H2.out,H3.out] at h4
  have hq:q=true ↔ seg bs 68 4=le4 s:=by rw [h4,← HQ.out];simp
  unfold dec
  rw [if_neg (by omega),HS.out,HF.out]
  by_cases hs:seg bs 68 4=le4 s
  ·rw [if_neg (by simpa using hs),if_pos (hq.2 hs)]
  ·rw [if_pos hs,if_neg (fun h=>hs (hq.1 h))])
 obtain ⟨rr,HRR⟩:∃ rr:Int × Fr,Hid ((if right F=true then ((0:Int),F) else (2,zero))=rr):=⟨_,Lib.hid rfl⟩
 rw [HD.out,HRR.out]
 clear HD HQ H0 H1 H2 H3 HS X0 X1 X2 X3 l0 l1 l2 l3
 have hbw:Below w.heap.size w (w.alloc (.cells #[.int .i64 0,.int .i64 0,.int .i64 0,.int .i64 0,.int .i64 0,.int .i64 0,.int .i64 0,.int .i64 0,.int .i64 0] 72)):=(Below.refl _ _).alloc (Nat.le_refl _) _
 have d0:=(hbw.cell (p:=⟨b,off+68,none⟩) hb0).trans c0
 have d1:=(hbw.cell (p:=⟨b,off+69,none⟩) hb0).trans c1
 have d2:=(hbw.cell (p:=⟨b,off+70,none⟩) hb0).trans c2
 have d3:=(hbw.cell (p:=⟨b,off+71,none⟩) hb0).trans c3
 have hbl:b < (w.alloc (.cells #[.int .i64 0,.int .i64 0,.int .i64 0,.int .i64 0,.int .i64 0,.int .i64 0,.int .i64 0,.int .i64 0,.int .i64 0] 72)).heap.size:=Nat.lt_of_lt_of_le hb0 hbw.size
 have HBW:=Lib.hid hbw.drew
 have HXW:=Lib.hid (show (w.alloc (.cells #[.int .i64 0,.int .i64 0,.int .i64 0,.int .i64 0,.int .i64 0,.int .i64 0,.int .i64 0,.int .i64 0,.int .i64 0] 72)).drew.heap[w.heap.size]?=some (.cells #[.int .i64 0,.int .i64 0,.int .i64 0,.int .i64 0,.int .i64 0,.int .i64 0,.int .i64 0,.int .i64 0,.int .i64 0] 72 (0,0)) from heap_alloc_new w _)
 have hat:=fun W=>run_array4 W b (off+68) (cap - 68)
 have HX:=Lib.hid hx
 have HN:=Lib.hid hn
 clear hbw c0 c1 c2 c3 hx hn h0
 go_enter Tryz.func125,Tryz.ntmps125
 go_upto_region 3 with ((with_reducible refine Calls.mono (HN0.out _ _ ((Below.refl _ _).alloc (Nat.le_refl _) _)) ?_);rintro e1 w1 ⟨rfl,rfl⟩)
 go_cut [22] (fun s22 wx=>s22 = .bool (!q)∧wx.heap[w.heap.size]?=some (.cells #[.int .i64 0,.int .i64 0,.int .i64 0,.int .i64 0,.int .i64 0,.int .i64 0,.int .i64 0,.int .i64 0,.int .i64 0] 72 (0,0))∧Below w.heap.size w wx)
 case first =>
  go_region_held3 (fun w'=>w'.cell? ⟨b,off+68,none⟩=some (.int .u8 (x0:Int))∧w'.cell? ⟨b,off+69,none⟩=some (.int .u8 (x1:Int))∧w'.cell? ⟨b,off+70,none⟩=some (.int .u8 (x2:Int))∧w'.cell? ⟨b,off+71,none⟩=some (.int .u8 (x3:Int)))
   (first | exact ⟨d0,d1,d2,d3⟩ | exact ⟨f0,f1,f2,f3⟩)
   (first
   |(go_at_call 131;refine Calls.mono (HCK.out _ HBW.out) ?_;rintro e w2 ⟨rfl,hb2⟩;have f0:=(hb2.cell (p:=⟨b,off+68,none⟩) hbl).trans d0;have f1:=(hb2.cell (p:=⟨b,off+69,none⟩) hbl).trans d1;have f2:=(hb2.cell (p:=⟨b,off+70,none⟩) hbl).trans d2;have f3:=(hb2.cell (p:=⟨b,off+71,none⟩) hbl).trans d3))
  all_goals (go_wp2_with fail;go_meet;exact ⟨rfl,box_cells hb2 (by simp) HXW.out,HBW.out.trans (hb2.mono (by simp))⟩)
 case rest =>
  obtain ⟨rfl,HXC,HBC⟩:=hcut
  have HXC':=Lib.hid HXC
  have HBC':=Lib.hid HBC
  clear d0 d1 d2 d3 heq hat HBW HXW HXC HBC
  rcases q with _ | _
  ·have hwh:World.whole wc w.heap.size 9 72:=whole_of HXC'.out rfl
   go_wp2_with (refine wpList_store_whole 72 (.tmp 2) (.tmp 23) w.heap.size 9 _ 72 (by rfl) (by rfl) hwh (by rfl) (by kernel_rfl) (by kernel_rfl) ?_)
   have hxs:=setAll_self (vs:=#[.int .i64 0,.int .i64 0,.int .i64 0,.int .i64 0,.int .i64 0,.int .i64 0,.int .i64 0,.int .i64 0,.int .i64 0]) hwh rfl
   have y0:(World.setAll wc w.heap.size #[.int .i64 0,.int .i64 0,.int .i64 0,.int .i64 0,.int .i64 0,.int .i64 0,.int .i64 0,.int .i64 0,.int .i64 0]).cell? ⟨w.heap.size,0,none⟩=some (.int .i64 0):=(block_cell hxs 0 _ rfl).1
   have y1:(World.setAll wc w.heap.size #[.int .i64 0,.int .i64 0,.int .i64 0,.int .i64 0,.int .i64 0,.int .i64 0,.int .i64 0,.int .i64 0,.int .i64 0]).cell? ⟨w.heap.size,1,none⟩=some (.int .i64 0):=(block_cell hxs 1 _ rfl).1
   have y2:(World.setAll wc w.heap.size #[.int .i64 0,.int .i64 0,.int .i64 0,.int .i64 0,.int .i64 0,.int .i64 0,.int .i64 0,.int .i64 0,.int .i64 0]).cell? ⟨w.heap.size,2,none⟩=some (.int .i64 0):=(block_cell hxs 2 _ rfl).1
   have y3:(World.setAll wc w.heap.size #[.int .i64 0,.int .i64 0,.int .i64 0,.int .i64 0,.int .i64 0,.int .i64 0,.int .i64 0,.int .i64 0,.int .i64 0]).cell? ⟨w.heap.size,3,none⟩=some (.int .i64 0):=(block_cell hxs 3 _ rfl).1
   have y4:(World.setAll wc w.heap.size #[.int .i64 0,.int .i64 0,.int .i64 0,.int .i64 0,.int .i64 0,.int .i64 0,.int .i64 0,.int .i64 0,.int .i64 0]).cell? ⟨w.heap.size,4,none⟩=some (.int .i64 0):=(block_cell hxs 4 _ rfl).1
   have y5:(World.setAll wc w.heap.size #[.int .i64 0,.int .i64 0,.int .i64 0,.int .i64 0,.int .i64 0,.int .i64 0,.int .i64 0,.int .i64 0,.int .i64 0]).cell? ⟨w.heap.size,5,none⟩=some (.int .i64 0):=(block_cell hxs 5 _ rfl).1
   have y6:(World.setAll wc w.heap.size #[.int .i64 0,.int .i64 0,.int .i64 0,.int .i64 0,.int .i64 0,.int .i64 0,.int .i64 0,.int .i64 0,.int .i64 0]).cell? ⟨w.heap.size,6,none⟩=some (.int .i64 0):=(block_cell hxs 6 _ rfl).1
   have y7:(World.setAll wc w.heap.size #[.int .i64 0,.int .i64 0,.int .i64 0,.int .i64 0,.int .i64 0,.int .i64 0,.int .i64 0,.int .i64 0,.int .i64 0]).cell? ⟨w.heap.size,7,none⟩=some (.int .i64 0):=(block_cell hxs 7 _ rfl).1
   have y8:(World.setAll wc w.heap.size #[.int .i64 0,.int .i64 0,.int .i64 0,.int .i64 0,.int .i64 0,.int .i64 0,.int .i64 0,.int .i64 0,.int .i64 0]).cell? ⟨w.heap.size,8,none⟩=some (.int .i64 0):=(block_cell hxs 8 _ rfl).1
   exact bodyPost_ret (v:=.tuple #[.agg #[.int .i64 0,.int .i64 0,.int .i64 0,.int .i64 0,.int .i64 0,.int .i64 0,.int .i64 0,.int .i64 0,.int .i64 0],.int .i64 10]) (by simp [results,Tryz.results125,go_sem,y0,y1,y2,y3,y4,y5,y6,y7,y8]) rfl ⟨rfl,setAll_below HBC'.out (Nat.le_refl _)⟩
  ·obtain ⟨v4,HV4⟩:∃ v,Hid (num (seg bs 4 4)=v):=⟨_,Lib.hid rfl⟩
   obtain ⟨v8,HV8⟩:∃ v,Hid (num (seg bs 8 8)=v):=⟨_,Lib.hid rfl⟩
   obtain ⟨vk,HVK⟩:∃ v,Hid (num (seg bs 16 4)=v):=⟨_,Lib.hid rfl⟩
   obtain ⟨z8,HZ8⟩:∃ z,Hid (sg v8=z):=⟨_,Lib.hid rfl⟩
   have h4:v4 < 4294967296:=by
    have:=num_lt (seg bs 4 4) (seg_lt HX.out.lt 4 4);rw [seg_len _ _ _ (by rw [HN.out];omega),HV4.out] at this;simpa using this
   have h8:v8 < 18446744073709551616:=by
    have:=num_lt (seg bs 8 8) (seg_lt HX.out.lt 8 8);rw [seg_len _ _ _ (by rw [HN.out];omega),HV8.out] at this;simpa using this
   have hk:vk < 4294967296:=by
    have:=num_lt (seg bs 16 4) (seg_lt HX.out.lt 16 4);rw [seg_len _ _ _ (by rw [HN.out];omega),HVK.out] at this;simpa using this
   have HN4:Hid (∀ W c,Below w.heap.size w W→Calls Tryz.prog 150 #[.slice (some ⟨b,off+4,none⟩) 4 c] W fun e w'=>e = .returned (.int .u64 (v4:Int))∧W=w'):=Lib.hid (fun W c hb=>number_seg HX.out HN.out 4 4 v4 (by omega) (by omega) HV4.out _ c rfl W hb)
   have HN8:Hid (∀ W c,Below w.heap.size w W→Calls Tryz.prog 150 #[.slice (some ⟨b,off+8,none⟩) 8 c] W fun e w'=>e = .returned (.int .u64 (v8:Int))∧W=w'):=Lib.hid (fun W c hb=>number_seg HX.out HN.out 8 8 v8 (by omega) (by omega) HV8.out _ c rfl W hb)
   have HNK:Hid (∀ W c,Below w.heap.size w W→Calls Tryz.prog 150 #[.slice (some ⟨b,off+16,none⟩) 4 c] W fun e w'=>e = .returned (.int .u64 (vk:Int))∧W=w'):=Lib.hid (fun W c hb=>number_seg HX.out HN.out 16 4 vk (by omega) (by omega) HVK.out _ c rfl W hb)
   have hw4:IntKind.i64.wrap (v4:Int)=(v4:Int):=by rw [wrap_sg (by omega)];unfold sg;rw [if_pos (by omega)]
   have hwk:IntKind.i64.wrap (vk:Int)=(vk:Int):=by rw [wrap_sg (by omega)];unfold sg;rw [if_pos (by omega)]
   have hw8:IntKind.i64.wrap (v8:Int)=z8:=by rw [wrap_sg h8,HZ8.out]
   have HP0:Hid (F.e=(v4:Int)∧F.l=z8∧F.k=(vk:Int)):=Lib.hid (by
    rw [← HF.out]
    exact ⟨congrArg (fun n:Nat=>(n:Int)) HV4.out,by show sg (num (seg bs 8 8))=z8;rw [HV8.out,HZ8.out],congrArg (fun n:Nat=>(n:Int)) HVK.out⟩)
   have HBC1:Hid (∀ o,Below w.heap.size w (wc.alloc o)):=Lib.hid (fun o=>HBC'.out.alloc HBC'.out.size o)
   have HBC3:Hid (w.heap.size < wc.heap.size):=Lib.hid (cell_block (block_cell HXC'.out 0 (.int .i64 0) rfl).1)
   clear h4 h8 hk
   simp only [Bool.not_true]
   have i8:(8:Int)≤(cap:Int):=by omega
   have i16:(16:Int)≤(cap:Int):=by omega
   have i20:(20:Int)≤(cap:Int):=by omega
   have n4:¬ cap=4:=by omega
   have n8:¬ cap=8:=by omega
   have n16:¬ cap=16:=by omega
   go_upto_region 5 with fail
   go_cut [4] (fun s4 wx => ∃ g,s4 = .pointer (some ⟨g,0,none⟩)∧wx.heap[g]?=some (.cells #[.int .i64 (v4:Int),.int .i64 z8,.int .i64 (vk:Int),.int .i64 0,.int .i64 0,.int .i64 0,.int .i64 0,.int .i64 0,.int .i64 0] 72 (0,0))∧wx.heap[w.heap.size]?=some (.cells #[.int .i64 0,.int .i64 0,.int .i64 0,.int .i64 0,.int .i64 0,.int .i64 0,.int .i64 0,.int .i64 0,.int .i64 0] 72 (0,0))∧w.heap.size < g∧Below w.heap.size w wx)
   case first =>
    go_region_held3 (fun _=>True) (trivial) (first
     |(go_at_call 150;with_reducible (show Calls _ _ #[Value.slice (some ⟨b,off+4,none⟩) _ _] _ _);refine Calls.mono (HN4.out _ _ (by first | exact HBC'.out.drew | exact (HBC1.out _).drew)) ?_;rintro e w2 ⟨rfl,rfl⟩)
     |(go_at_call 150;with_reducible (show Calls _ _ #[Value.slice (some ⟨b,off+8,none⟩) _ _] _ _);refine Calls.mono (HN8.out _ _ (by first | exact HBC'.out.drew | exact (HBC1.out _).drew)) ?_;rintro e w2 ⟨rfl,rfl⟩)
     |(go_at_call 150;with_reducible (show Calls _ _ #[Value.slice (some ⟨b,off+16,none⟩) _ _] _ _);refine Calls.mono (HNK.out _ _ (by first | exact HBC'.out.drew | exact (HBC1.out _).drew)) ?_;rintro e w2 ⟨rfl,rfl⟩))
    all_goals (go_wp2_with fail;go_meet;exact ⟨wc.heap.size,rfl,heap_alloc_new wc _,(Below.heap_alloc wc _ _ (HBC3.out)).trans HXC'.out,HBC3.out,(HBC1.out _).drew⟩)
   case rest =>
    obtain ⟨g,rfl,HG,HXD,hgg,HBD⟩:=hcut
    have HG' : Hid (wc.heap[g]?=some (.cells (part F 0).toArray 72 (0,0))):=Lib.hid (by
     obtain ⟨e1,e2,e3⟩:=HP0.out
     rw [part_zero,e1,e2,e3];exact HG)
    have HXD':=Lib.hid HXD
    have HBD':=Lib.hid HBD
    clear HG HXD HBD hw4 hw8 hwk i8 i16 i20 n4 n8 n16
    go_wp2
    go_loopw [5,37] (fun _ i wr => ∃ j:Nat,j≤6∧i = .int .i64 j∧Hid (wr.heap[g]?=some (.cells (part F j).toArray 72 (0,0)))∧Hid (wr.heap[w.heap.size]?=some (.cells #[.int .i64 0,.int .i64 0,.int .i64 0,.int .i64 0,.int .i64 0,.int .i64 0,.int .i64 0,.int .i64 0,.int .i64 0] 72 (0,0)))∧Hid (Below w.heap.size w wr)) (fun _ i _=>6 - (intOf i).toNat)
    case atStart=>exact ⟨0,by omega,rfl,HG',HXD',HBD'⟩
    case round =>
     obtain ⟨j,hj,rfl,HGr,HXr,HBr⟩:=hrel
     by_cases hlt:j < 6
     ·obtain ⟨o,HO⟩:∃ o,Hid (off+(20+8 * j)=o):=⟨_,Lib.hid rfl⟩
      obtain ⟨c2,HC2⟩:∃ c2,Hid (cap - (20+8 * j)=c2):=⟨_,Lib.hid rfl⟩
      obtain ⟨v,HV⟩:∃ v,Hid (num (seg bs (20+8 * j) 8)=v):=⟨_,Lib.hid rfl⟩
      obtain ⟨z,HZ⟩:∃ z,Hid (sg v=z):=⟨_,Lib.hid rfl⟩
      have hv:v < 18446744073709551616:=by
       have:=num_lt (seg bs (20+8 * j) 8) (seg_lt HX.out.lt _ 8);rw [seg_len _ _ _ (by rw [HN.out];omega),HV.out] at this;simpa using this
      have hwz:IntKind.i64.wrap (v:Int)=z:=by rw [wrap_sg hv,HZ.out]
      have HPL:Hid (∀ (z:Int),z=(j:Int)→Calls Tryz.prog 130 #[.slice (some ⟨b,off,none⟩) 72 cap,.int .i64 z] wr fun e w'=>e = .returned (.slice (some ⟨b,o,none⟩) 8 c2)∧wr=w'):=Lib.hid (fun z hz=>place_is b off j cap o c2 z wr hz HO.out HC2.out hlt hc hcm)
      have HNB:Hid (Calls Tryz.prog 150 #[.slice (some ⟨b,o,none⟩) 8 c2] wr fun e w'=>e = .returned (.int .u64 (v:Int))∧wr=w'):=Lib.hid (number_seg HX.out HN.out (20+8 * j) 8 v (by omega) (by omega) HV.out o c2 HO.out wr HBr.out)
      have k0:wr.cell? ⟨g,3+j,none⟩=some (.int .i64 0):=(block_cell HGr.out (3+j) (.int .i64 0) (by
       rcases (show j=0∨j=1∨j=2∨j=3∨j=4∨j=5 by omega) with rfl | rfl | rfl | rfl | rfl | rfl<;>rfl)).1
      have kf:wr.frozen? ⟨g,3+j,none⟩=false:=frozen_of_row wr g (3+j) _ _ HGr.out
      have HNX:Hid ((wr.setCell ⟨g,3+j,none⟩ (.int .i64 z)).heap[g]?=some (.cells (part F (j+1)).toArray 72 (0,0))):=Lib.hid (by
       have:=heap_setCell_same wr g (3+j) _ _ (.int .i64 z) HGr.out
       rw [this]
       congr 2
       have hb:F.body j=z:=by rw [← HF.out,body_parse bs j hlt,HV.out,HZ.out]
       rw [← part_set F j hlt,hb]
       simp)
      have HXN:Hid ((wr.setCell ⟨g,3+j,none⟩ (.int .i64 z)).heap[w.heap.size]?=some (.cells #[.int .i64 0,.int .i64 0,.int .i64 0,.int .i64 0,.int .i64 0,.int .i64 0,.int .i64 0,.int .i64 0,.int .i64 0] 72 (0,0))):=Lib.hid ((Below.heap_setCell _ _ _ _ (by simp;omega)).trans HXr.out)
      have HBN:Hid (Below w.heap.size w (wr.setCell ⟨g,3+j,none⟩ (.int .i64 z))):=Lib.hid (HBr.out.setCell (p:=⟨g,3+j,none⟩) (by simp;omega) _)
      clear hv
      go_wp2_with (first
       |((with_reducible refine Calls.mono (HPL.out _ (by rfl)) ?_);rintro e7 w7 ⟨rfl,rfl⟩)
       |((with_reducible refine Calls.mono HNB.out ?_);rintro e8 w8 ⟨rfl,rfl⟩))
      go_roundw
      case rel=>exact ⟨j+1,by omega,by go_num,HNX,HXN,HBN⟩
      case measure=>first | (simp [intOf];done) | (simp [intOf];omega)
     ·obtain rfl:j=6:=by omega
      rw [part_all] at HGr
      obtain ⟨e,l,k,b0,b1,b2,b3,b4,b5⟩:=F
      have FF:Hid ((⟨e,l,k,b0,b1,b2,b3,b4,b5⟩:Fr).fine):=Lib.hid (by rw [← HF.out];exact parse_fine HX.out.lt)
      obtain ⟨r,HR⟩:∃ r,Hid (right ⟨e,l,k,b0,b1,b2,b3,b4,b5⟩=r):=⟨_,Lib.hid rfl⟩
      have HRT:Hid (Calls Tryz.prog 128 #[.agg #[.int .i64 e,.int .i64 l,.int .i64 k,.int .i64 b0,.int .i64 b1,.int .i64 b2,.int .i64 b3,.int .i64 b4,.int .i64 b5]] wr fun e w'=>e = .returned (.bool r)∧Below wr.heap.size wr w'):=Lib.hid (right_is ⟨e,l,k,b0,b1,b2,b3,b4,b5⟩ r wr HR.out)
      have HGr' : Hid (wr.heap[g]?=some (.cells #[.int .i64 e,.int .i64 l,.int .i64 k,.int .i64 b0,.int .i64 b1,.int .i64 b2,.int .i64 b3,.int .i64 b4,.int .i64 b5] 72 (0,0))):=HGr
      have k0:wr.cell? ⟨g,0,none⟩=some (.int .i64 e):=(block_cell HGr'.out 0 _ rfl).1
      have k1:wr.cell? ⟨g,1,none⟩=some (.int .i64 l):=(block_cell HGr'.out 1 _ rfl).1
      have k2:wr.cell? ⟨g,2,none⟩=some (.int .i64 k):=(block_cell HGr'.out 2 _ rfl).1
      have k3:wr.cell? ⟨g,3,none⟩=some (.int .i64 b0):=(block_cell HGr'.out 3 _ rfl).1
      have k4:wr.cell? ⟨g,4,none⟩=some (.int .i64 b1):=(block_cell HGr'.out 4 _ rfl).1
      have k5:wr.cell? ⟨g,5,none⟩=some (.int .i64 b2):=(block_cell HGr'.out 5 _ rfl).1
      have k6:wr.cell? ⟨g,6,none⟩=some (.int .i64 b3):=(block_cell HGr'.out 6 _ rfl).1
      have k7:wr.cell? ⟨g,7,none⟩=some (.int .i64 b4):=(block_cell HGr'.out 7 _ rfl).1
      have k8:wr.cell? ⟨g,8,none⟩=some (.int .i64 b5):=(block_cell HGr'.out 8 _ rfl).1
      have hgl:g < wr.heap.size:=cell_block k0
      rw [HR.out] at HRR
      rcases r with _ | _
      ·go_wp2_with (first
        |(refine wpList_store_whole 72 (.tmp 2) (.tmp 52) w.heap.size 9 _ 72 (by rfl) (by rfl) hwh9 (by rfl) (by kernel_rfl) (by kernel_rfl) ?_)
        |((with_reducible refine Calls.mono HRT.out ?_);rintro e9 w9 ⟨rfl,hb9⟩;have hwh9:World.whole w9 w.heap.size 9 72:=whole_of ((hb9.block w.heap.size (by omega)).trans HXr.out) rfl;have HB9:=Lib.hid (HBr.out.trans (hb9.mono HBr.out.size));clear hb9))
       have hxs:=setAll_self (vs:=#[.int .i64 0,.int .i64 0,.int .i64 0,.int .i64 0,.int .i64 0,.int .i64 0,.int .i64 0,.int .i64 0,.int .i64 0]) hwh9 rfl
       have y0:(World.setAll w9 w.heap.size #[.int .i64 0,.int .i64 0,.int .i64 0,.int .i64 0,.int .i64 0,.int .i64 0,.int .i64 0,.int .i64 0,.int .i64 0]).cell? ⟨w.heap.size,0,none⟩=some (.int .i64 0):=(block_cell hxs 0 _ rfl).1
       have y1:(World.setAll w9 w.heap.size #[.int .i64 0,.int .i64 0,.int .i64 0,.int .i64 0,.int .i64 0,.int .i64 0,.int .i64 0,.int .i64 0,.int .i64 0]).cell? ⟨w.heap.size,1,none⟩=some (.int .i64 0):=(block_cell hxs 1 _ rfl).1
       have y2:(World.setAll w9 w.heap.size #[.int .i64 0,.int .i64 0,.int .i64 0,.int .i64 0,.int .i64 0,.int .i64 0,.int .i64 0,.int .i64 0,.int .i64 0]).cell? ⟨w.heap.size,2,none⟩=some (.int .i64 0):=(block_cell hxs 2 _ rfl).1
       have y3:(World.setAll w9 w.heap.size #[.int .i64 0,.int .i64 0,.int .i64 0,.int .i64 0,.int .i64 0,.int .i64 0,.int .i64 0,.int .i64 0,.int .i64 0]).cell? ⟨w.heap.size,3,none⟩=some (.int .i64 0):=(block_cell hxs 3 _ rfl).1
       have y4:(World.setAll w9 w.heap.size #[.int .i64 0,.int .i64 0,.int .i64 0,.int .i64 0,.int .i64 0,.int .i64 0,.int .i64 0,.int .i64 0,.int .i64 0]).cell? ⟨w.heap.size,4,none⟩=some (.int .i64 0):=(block_cell hxs 4 _ rfl).1
       have y5:(World.setAll w9 w.heap.size #[.int .i64 0,.int .i64 0,.int .i64 0,.int .i64 0,.int .i64 0,.int .i64 0,.int .i64 0,.int .i64 0,.int .i64 0]).cell? ⟨w.heap.size,5,none⟩=some (.int .i64 0):=(block_cell hxs 5 _ rfl).1
       have y6:(World.setAll w9 w.heap.size #[.int .i64 0,.int .i64 0,.int .i64 0,.int .i64 0,.int .i64 0,.int .i64 0,.int .i64 0,.int .i64 0,.int .i64 0]).cell? ⟨w.heap.size,6,none⟩=some (.int .i64 0):=(block_cell hxs 6 _ rfl).1
       have y7:(World.setAll w9 w.heap.size #[.int .i64 0,.int .i64 0,.int .i64 0,.int .i64 0,.int .i64 0,.int .i64 0,.int .i64 0,.int .i64 0,.int .i64 0]).cell? ⟨w.heap.size,7,none⟩=some (.int .i64 0):=(block_cell hxs 7 _ rfl).1
       have y8:(World.setAll w9 w.heap.size #[.int .i64 0,.int .i64 0,.int .i64 0,.int .i64 0,.int .i64 0,.int .i64 0,.int .i64 0,.int .i64 0,.int .i64 0]).cell? ⟨w.heap.size,8,none⟩=some (.int .i64 0):=(block_cell hxs 8 _ rfl).1
       exact bodyPost_ret (v:=.tuple #[.agg #[.int .i64 0,.int .i64 0,.int .i64 0,.int .i64 0,.int .i64 0,.int .i64 0,.int .i64 0,.int .i64 0,.int .i64 0],.int .i64 2]) (by simp [results,Tryz.results125,go_sem,y0,y1,y2,y3,y4,y5,y6,y7,y8]) rfl ⟨by rw [← HRR.out];rfl,setAll_below HB9.out (Nat.le_refl _)⟩
      ·go_wp2_with (first
        |(refine wpList_store_whole 72 (.tmp 2) (.tmp 53) w.heap.size 9 _ 72 (by rfl) (by rfl) hwh9 (by rfl) (by kernel_rfl) (by kernel_rfl) ?_)
        |((with_reducible refine Calls.mono HRT.out ?_);rintro e9 w9 ⟨rfl,hb9⟩;have hwh9:World.whole w9 w.heap.size 9 72:=whole_of ((hb9.block w.heap.size (by omega)).trans HXr.out) rfl;have HB9:=Lib.hid (HBr.out.trans (hb9.mono HBr.out.size));have hbl9:=(hb9.block g hgl).trans HGr'.out;have m0:w9.cell? ⟨g,0,none⟩=some (.int .i64 e):=(block_cell hbl9 0 _ rfl).1;have m1:w9.cell? ⟨g,1,none⟩=some (.int .i64 l):=(block_cell hbl9 1 _ rfl).1;have m2:w9.cell? ⟨g,2,none⟩=some (.int .i64 k):=(block_cell hbl9 2 _ rfl).1;have m3:w9.cell? ⟨g,3,none⟩=some (.int .i64 b0):=(block_cell hbl9 3 _ rfl).1;have m4:w9.cell? ⟨g,4,none⟩=some (.int .i64 b1):=(block_cell hbl9 4 _ rfl).1;have m5:w9.cell? ⟨g,5,none⟩=some (.int .i64 b2):=(block_cell hbl9 5 _ rfl).1;have m6:w9.cell? ⟨g,6,none⟩=some (.int .i64 b3):=(block_cell hbl9 6 _ rfl).1;have m7:w9.cell? ⟨g,7,none⟩=some (.int .i64 b4):=(block_cell hbl9 7 _ rfl).1;have m8:w9.cell? ⟨g,8,none⟩=some (.int .i64 b5):=(block_cell hbl9 8 _ rfl).1;clear hb9 hbl9))
       have hxs:=setAll_self (vs:=#[.int .i64 e,.int .i64 l,.int .i64 k,.int .i64 b0,.int .i64 b1,.int .i64 b2,.int .i64 b3,.int .i64 b4,.int .i64 b5]) hwh9 rfl
       have y0:(World.setAll w9 w.heap.size #[.int .i64 e,.int .i64 l,.int .i64 k,.int .i64 b0,.int .i64 b1,.int .i64 b2,.int .i64 b3,.int .i64 b4,.int .i64 b5]).cell? ⟨w.heap.size,0,none⟩=some (.int .i64 e):=(block_cell hxs 0 _ rfl).1
       have y1:(World.setAll w9 w.heap.size #[.int .i64 e,.int .i64 l,.int .i64 k,.int .i64 b0,.int .i64 b1,.int .i64 b2,.int .i64 b3,.int .i64 b4,.int .i64 b5]).cell? ⟨w.heap.size,1,none⟩=some (.int .i64 l):=(block_cell hxs 1 _ rfl).1
       have y2:(World.setAll w9 w.heap.size #[.int .i64 e,.int .i64 l,.int .i64 k,.int .i64 b0,.int .i64 b1,.int .i64 b2,.int .i64 b3,.int .i64 b4,.int .i64 b5]).cell? ⟨w.heap.size,2,none⟩=some (.int .i64 k):=(block_cell hxs 2 _ rfl).1
       have y3:(World.setAll w9 w.heap.size #[.int .i64 e,.int .i64 l,.int .i64 k,.int .i64 b0,.int .i64 b1,.int .i64 b2,.int .i64 b3,.int .i64 b4,.int .i64 b5]).cell? ⟨w.heap.size,3,none⟩=some (.int .i64 b0):=(block_cell hxs 3 _ rfl).1
       have y4:(World.setAll w9 w.heap.size #[.int .i64 e,.int .i64 l,.int .i64 k,.int .i64 b0,.int .i64 b1,.int .i64 b2,.int .i64 b3,.int .i64 b4,.int .i64 b5]).cell? ⟨w.heap.size,4,none⟩=some (.int .i64 b1):=(block_cell hxs 4 _ rfl).1
       have y5:(World.setAll w9 w.heap.size #[.int .i64 e,.int .i64 l,.int .i64 k,.int .i64 b0,.int .i64 b1,.int .i64 b2,.int .i64 b3,.int .i64 b4,.int .i64 b5]).cell? ⟨w.heap.size,5,none⟩=some (.int .i64 b2):=(block_cell hxs 5 _ rfl).1
       have y6:(World.setAll w9 w.heap.size #[.int .i64 e,.int .i64 l,.int .i64 k,.int .i64 b0,.int .i64 b1,.int .i64 b2,.int .i64 b3,.int .i64 b4,.int .i64 b5]).cell? ⟨w.heap.size,6,none⟩=some (.int .i64 b3):=(block_cell hxs 6 _ rfl).1
       have y7:(World.setAll w9 w.heap.size #[.int .i64 e,.int .i64 l,.int .i64 k,.int .i64 b0,.int .i64 b1,.int .i64 b2,.int .i64 b3,.int .i64 b4,.int .i64 b5]).cell? ⟨w.heap.size,7,none⟩=some (.int .i64 b4):=(block_cell hxs 7 _ rfl).1
       have y8:(World.setAll w9 w.heap.size #[.int .i64 e,.int .i64 l,.int .i64 k,.int .i64 b0,.int .i64 b1,.int .i64 b2,.int .i64 b3,.int .i64 b4,.int .i64 b5]).cell? ⟨w.heap.size,8,none⟩=some (.int .i64 b5):=(block_cell hxs 8 _ rfl).1
       exact bodyPost_ret (v:=.tuple #[.agg #[.int .i64 e,.int .i64 l,.int .i64 k,.int .i64 b0,.int .i64 b1,.int .i64 b2,.int .i64 b3,.int .i64 b4,.int .i64 b5],.int .i64 0]) (by simp [results,Tryz.results125,go_sem,y0,y1,y2,y3,y4,y5,y6,y7,y8]) rfl ⟨by rw [← HRR.out];rfl,setAll_below HB9.out (Nat.le_refl _)⟩
end Go.Proofs.YtalhdalinpdanaaGreatDoor.frame
