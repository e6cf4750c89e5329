/-
  FrameRef3, ScanPut
-/
import Derived.Test.YtepfmpmphcndjaaGreatDoorMwo25
set_option linter.unusedVariables false
set_option linter.unusedSimpArgs false
section
namespace Go.Proofs.YtepfmpmphcndjaaGreatDoor.frame
set_option maxRecDepth 20000
open Go.RowKit Go.Proofs.YtepfmpmphcndjaaGreatDoor
theorem or32 (hi lo:Nat) (hh:hi < 4294967296) (hl:lo < 4294967296):bits .or .i64 (IntKind.i64.wrap ((hi:Int) * 4294967296)) (lo:Int)=sg (hi * 4294967296+lo):=by
 have e1:BitVec.ofInt 64 (IntKind.i64.wrap ((hi:Int) * 4294967296))=BitVec.ofNat 64 (hi * 4294967296):=by
  apply BitVec.eq_of_toNat_eq
  rw [IntKind.wrap_i64]
  simp only [BitVec.toNat_ofInt,BitVec.toNat_ofNat]
  omega
 have e2:BitVec.ofInt 64 (lo:Int)=BitVec.ofNat 64 lo:=by
  apply BitVec.eq_of_toNat_eq
  simp only [BitVec.toNat_ofInt,BitVec.toNat_ofNat]
  omega
 have e3:hi * 4294967296 ||| lo=hi * 4294967296+lo:=by
  have:=Nat.two_pow_add_eq_or_of_lt (i:=32) (a:=hi) (b:=lo) (by simpa using hl)
  rw [show 2 ^ 32 * hi=hi * 4294967296 by omega] at this
  exact this.symm
 show IntKind.i64.wrap (((BitVec.ofInt 64 (IntKind.i64.wrap ((hi:Int) * 4294967296)) ||| BitVec.ofInt 64 (lo:Int)).toNat:Nat):Int)=_
 rw [e1,e2,BitVec.toNat_or,BitVec.toNat_ofNat,BitVec.toNat_ofNat,Nat.mod_eq_of_lt (show hi * 4294967296 < 2 ^ 64 by omega),Nat.mod_eq_of_lt (show lo < 2 ^ 64 by omega),e3]
 exact wrap_sg (by omega)
theorem or32w (hi lo:Nat) (hh:hi < 4294967296) (hl:lo < 4294967296):bits .or .i64 (wrap64 ((hi:Int) * 4294967296)) (lo:Int)=sg (hi * 4294967296+lo):=by
 rw [← IntWalk.i64_left];exact or32 hi lo hh hl
theorem num_halves {bs:List Nat} (hn:bs.length=72) (a:Nat) (ha:a+8≤72):num (seg bs a 8)=num (seg bs a 4) * 4294967296+num (seg bs (a+4) 4):=by
 rw [← seg_join bs a 4 4,num_append,seg_len bs (a+4) 4 (by omega)]
theorem num4_lt {bs:List Nat} (h:∀ b ∈ bs,b < 256) (hn:bs.length=72) (a:Nat) (ha:a+4≤72):num (seg bs a 4) < 4294967296:=by
 have:=num_lt (seg bs a 4) (seg_lt h a 4)
 rw [seg_len _ _ _ (by omega)] at this
 simpa using this
theorem rnumber_is {w:World} {b off:Nat} {bs:List Nat} (hx:Bys w w.heap.size (some ⟨b,off,none⟩) bs) (hn:bs.length=72) (a v cap:Nat) (z:Int) (hz:z=(a:Int)) (ha:a+4≤72) (hv:num (seg bs a 4)=v) (W:World) (hb:Below w.heap.size w W) :
  Calls Tryz.prog 151 #[.slice (some ⟨b,off,none⟩) 72 cap,.int .i64 z] W fun e w'=>e = .returned (.int .i64 (v:Int))∧∃ m,w'=W.drewN m :=
 rnumber_any b off cap 72 z bs a v W hz ((hx.below hb).more hb.size) hn ha (by omega) hv
theorem rdecode_short (A:Option Addr) (n cap:Nat) (bs:List Nat) (w:World) (hn:bs.length=n) (h:n≠72):Calls Tryz.prog 127 #[.slice A n cap] w (Decoded (dec bs) w):=by
 have hd:dec bs=(2,zero):=by unfold dec;rw [if_pos (.inl (by omega))]
 rw [hd]
 have ht:((n:Int) != 72)=true:=by simp;omega
 clear hd hn h
 go_enter Tryz.func127,Tryz.ntmps127
 go_wp2
 exact bodyPost_ret (v:=.tuple #[.agg #[.int .i64 0,.int .i64 0,.int .i64 0,.int .i64 0,.int .i64 0,.int .i64 0,.int .i64 0,.int .i64 0,.int .i64 0],.int .i64 2]) (by simp [results,Tryz.results127,go_sem]) rfl ⟨rfl,(Below.refl _ _).alloc (Nat.le_refl _) _⟩
theorem rdecode_head (b off cap v:Nat) (bs:List Nat) (w:World) (hx:Bys w w.heap.size (some ⟨b,off,none⟩) bs) (hn:bs.length=72) (h0:num (seg bs 0 4)=v) (hv:v≠72) :
  Calls Tryz.prog 127 #[.slice (some ⟨b,off,none⟩) 72 cap] w (Decoded (dec bs) w):=by
 have hd:dec bs=(2,zero):=by unfold dec;rw [if_pos (.inr (by omega))]
 rw [hd]
 have HN0:Hid (∀ W z,z=0→Below w.heap.size w W→Calls Tryz.prog 151 #[.slice (some ⟨b,off,none⟩) 72 cap,.int .i64 z] W fun e w'=>e = .returned (.int .i64 (v:Int))∧∃ m,w'=W.drewN m):=Lib.hid (fun W z hz hb=>rnumber_is hx hn 0 v cap z hz (by omega) h0 W hb)
 have ht:((v:Int) != 72)=true:=by simp;omega
 clear hd hn h0 hv hx
 go_enter Tryz.func127,Tryz.ntmps127
 go_wp2_with (first
  |((with_reducible refine Calls.mono (HN0.out _ _ (by rfl) ((Below.refl _ _).alloc (Nat.le_refl _) _)) ?_);rintro e1 w1 ⟨rfl,hm⟩;have hh:w1.heap=(w.alloc (.cells #[.int .i64 0,.int .i64 0,.int .i64 0,.int .i64 0,.int .i64 0,.int .i64 0,.int .i64 0,.int .i64 0,.int .i64 0] 72)).heap:=(by obtain ⟨m,rfl⟩:=hm;rfl);have hx1:w1.heap[w.heap.size]?=some (.cells #[.int .i64 0,.int .i64 0,.int .i64 0,.int .i64 0,.int .i64 0,.int .i64 0,.int .i64 0,.int .i64 0,.int .i64 0] 72 (0,0)):=(by rw [hh];exact heap_alloc_new w _);have hwh:World.whole w1 w.heap.size 9 72:=whole_of hx1 rfl;have hb1:Below w.heap.size w w1:=(by obtain ⟨m,rfl⟩:=hm;exact below_drewN ((Below.refl _ _).alloc (Nat.le_refl _) _) m);clear hm hh)
  |(refine wpList_store_whole 72 (.tmp 2) (.tmp 15) w.heap.size 9 _ 72 (by rfl) (by rfl) hwh (by rfl) (by kernel_rfl) (by kernel_rfl) ?_))
 have hxs:=setAll_self (vs:=#[.int .i64 0,.int .i64 0,.int .i64 0,.int .i64 0,.int .i64 0,.int .i64 0,.int .i64 0,.int .i64 0,.int .i64 0]) hwh rfl
 have y0:(World.setAll w1 w.heap.size #[.int .i64 0,.int .i64 0,.int .i64 0,.int .i64 0,.int .i64 0,.int .i64 0,.int .i64 0,.int .i64 0,.int .i64 0]).cell? ⟨w.heap.size,0,none⟩=some (.int .i64 0):=(block_cell hxs 0 _ rfl).1
 have y1:(World.setAll w1 w.heap.size #[.int .i64 0,.int .i64 0,.int .i64 0,.int .i64 0,.int .i64 0,.int .i64 0,.int .i64 0,.int .i64 0,.int .i64 0]).cell? ⟨w.heap.size,1,none⟩=some (.int .i64 0):=(block_cell hxs 1 _ rfl).1
 have y2:(World.setAll w1 w.heap.size #[.int .i64 0,.int .i64 0,.int .i64 0,.int .i64 0,.int .i64 0,.int .i64 0,.int .i64 0,.int .i64 0,.int .i64 0]).cell? ⟨w.heap.size,2,none⟩=some (.int .i64 0):=(block_cell hxs 2 _ rfl).1
 have y3:(World.setAll w1 w.heap.size #[.int .i64 0,.int .i64 0,.int .i64 0,.int .i64 0,.int .i64 0,.int .i64 0,.int .i64 0,.int .i64 0,.int .i64 0]).cell? ⟨w.heap.size,3,none⟩=some (.int .i64 0):=(block_cell hxs 3 _ rfl).1
 have y4:(World.setAll w1 w.heap.size #[.int .i64 0,.int .i64 0,.int .i64 0,.int .i64 0,.int .i64 0,.int .i64 0,.int .i64 0,.int .i64 0,.int .i64 0]).cell? ⟨w.heap.size,4,none⟩=some (.int .i64 0):=(block_cell hxs 4 _ rfl).1
 have y5:(World.setAll w1 w.heap.size #[.int .i64 0,.int .i64 0,.int .i64 0,.int .i64 0,.int .i64 0,.int .i64 0,.int .i64 0,.int .i64 0,.int .i64 0]).cell? ⟨w.heap.size,5,none⟩=some (.int .i64 0):=(block_cell hxs 5 _ rfl).1
 have y6:(World.setAll w1 w.heap.size #[.int .i64 0,.int .i64 0,.int .i64 0,.int .i64 0,.int .i64 0,.int .i64 0,.int .i64 0,.int .i64 0,.int .i64 0]).cell? ⟨w.heap.size,6,none⟩=some (.int .i64 0):=(block_cell hxs 6 _ rfl).1
 have y7:(World.setAll w1 w.heap.size #[.int .i64 0,.int .i64 0,.int .i64 0,.int .i64 0,.int .i64 0,.int .i64 0,.int .i64 0,.int .i64 0,.int .i64 0]).cell? ⟨w.heap.size,7,none⟩=some (.int .i64 0):=(block_cell hxs 7 _ rfl).1
 have y8:(World.setAll w1 w.heap.size #[.int .i64 0,.int .i64 0,.int .i64 0,.int .i64 0,.int .i64 0,.int .i64 0,.int .i64 0,.int .i64 0,.int .i64 0]).cell? ⟨w.heap.size,8,none⟩=some (.int .i64 0):=(block_cell hxs 8 _ rfl).1
 exact bodyPost_ret (v:=.tuple #[.agg #[.int .i64 0,.int .i64 0,.int .i64 0,.int .i64 0,.int .i64 0,.int .i64 0,.int .i64 0,.int .i64 0,.int .i64 0],.int .i64 2]) (by simp [results,Tryz.results127,go_sem,y0,y1,y2,y3,y4,y5,y6,y7,y8]) rfl ⟨rfl,setAll_below hb1 (Nat.le_refl _)⟩
set_option maxHeartbeats 16000000 in
theorem rdecode_72 (b off cap:Nat) (bs:List Nat) (w:World) (hx:Bys w w.heap.size (some ⟨b,off,none⟩) bs) (hn:bs.length=72) (hc:72≤cap) (hcm:cap≤9223372036854775807) (h0:num (seg bs 0 4)=72) :
  Calls Tryz.prog 127 #[.slice (some ⟨b,off,none⟩) 72 cap] w (Decoded (dec bs) w):=by
 have hlt:=hx.lt
 have HN:Hid (∀ (a v:Nat),a+4≤72→num (seg bs a 4)=v→∀ W z,z=(a:Int)→Below w.heap.size w W→Calls Tryz.prog 151 #[.slice (some ⟨b,off,none⟩) 72 cap,.int .i64 z] W fun e w'=>e = .returned (.int .i64 (v:Int))∧∃ m,w'=W.drewN m):=Lib.hid (fun a v ha hv W z hz hb=>rnumber_is hx hn a v cap z hz ha hv W hb)
 have HN0:Hid (∀ W z,z=0→Below w.heap.size w W→Calls Tryz.prog 151 #[.slice (some ⟨b,off,none⟩) 72 cap,.int .i64 z] W fun e w'=>e = .returned (.int .i64 72)∧∃ m,w'=W.drewN m):=Lib.hid (fun W z hz hb=>HN.out 0 72 (by omega) h0 W z hz hb)
 obtain ⟨s,HS⟩:∃ s,Hid (crc.more 0 (bs.take 68)=s):=⟨_,Lib.hid rfl⟩
 have hsl:s < 4294967296:=by rw [← HS.out];exact crc.more_lt _ (by omega) (fun b hb=>by have:=hlt b (List.mem_of_mem_take hb);omega)
 have HSM:Hid (∀ W c,Below w.heap.size w W→Calls Tryz.prog 112 #[.slice (some ⟨b,off,none⟩) 68 c] W fun e w'=>e = .returned (.int .u32 (s:Int))∧W=w'):=Lib.hid (fun W c hb=>rsum_is _ 68 c w.heap.size _ s W ((hx.take 68).below hb) (by rw [List.length_take];omega) (by omega) HS.out)
 obtain ⟨b0,o0,x0,e0,hb0,X0,c0,l0⟩:=hx.at_ (j:=68) (by omega)
 obtain ⟨b1,o1,x1,e1,hb1,X1,c1,l1⟩:=hx.at_ (j:=69) (by omega)
 obtain ⟨b2,o2,x2,e2,hb2,X2,c2,l2⟩:=hx.at_ (j:=70) (by omega)
 obtain ⟨b3,o3,x3,e3,hb3,X3,c3,l3⟩:=hx.at_ (j:=71) (by omega)
 simp only [Option.some.injEq,Addr.mk.injEq,and_true] at e0 e1 e2 e3
 obtain ⟨rfl,rfl⟩:=e0
 obtain ⟨rfl,rfl⟩:=e1
 obtain ⟨rfl,rfl⟩:=e2
 obtain ⟨rfl,rfl⟩:=e3
 have h4:=le4_seg (s:=s) X0.out X1.out X2.out X3.out
 obtain ⟨F,HF⟩:∃ F,Hid (parse bs=F):=⟨_,Lib.hid rfl⟩
 obtain ⟨rr,HRR⟩:∃ rr:Int × Fr,Hid ((if right F=true then ((0:Int),F) else (2,zero))=rr):=⟨_,Lib.hid rfl⟩
 have hcase:∃ D,Hid (dec bs=D)∧(((((x0:Int) != (s:Int) % 256)=true)∧D=(10,zero))∨((((x0:Int) != (s:Int) % 256)=false)∧(((x1:Int) != (s:Int) / 256 % 256)=true)∧D=(10,zero)) ∨
   ((((x0:Int) != (s:Int) % 256)=false)∧(((x1:Int) != (s:Int) / 256 % 256)=false)∧(((x2:Int) != (s:Int) / 65536 % 256)=true)∧D=(10,zero)) ∨
   ((((x0:Int) != (s:Int) % 256)=false)∧(((x1:Int) != (s:Int) / 256 % 256)=false)∧(((x2:Int) != (s:Int) / 65536 % 256)=false)∧(((x3:Int) != (s:Int) / 16777216)=true)∧D=(10,zero)) ∨
   ((((x0:Int) != (s:Int) % 256)=false)∧(((x1:Int) != (s:Int) / 256 % 256)=false)∧(((x2:Int) != (s:Int) / 65536 % 256)=false)∧(((x3:Int) != (s:Int) / 16777216)=false)∧D=rr)):=by
  refine ⟨_,Lib.hid rfl,?_⟩
  have hd:dec bs=if seg bs 68 4=le4 s then rr else (10,zero):=by
   unfold dec
   rw [if_neg (by omega),HS.out,HF.out,HRR.out]
   by_cases hs:seg bs 68 4=le4 s
   ·rw [if_neg (by simpa using hs),if_pos hs]
   ·rw [if_pos hs,if_neg hs]
  rw [hd]
  simp only [bne_iff_ne,ne_eq,bne_eq_false_iff_eq]
  by_cases hs:seg bs 68 4=le4 s
  ·obtain ⟨q0,q1,q2,q3⟩:=h4.1 hs
   rw [if_pos hs]
   exact .inr (.inr (.inr (.inr ⟨by omega,by omega,by omega,by omega,rfl⟩)))
  ·have hne:¬ (x0=s % 256∧x1=s / 256 % 256∧x2=s / 65536 % 256∧x3=s / 16777216 % 256):=fun h=>hs (h4.2 h)
   rw [if_neg hs]
   by_cases q0:x0=s % 256
   ·by_cases q1:x1=s / 256 % 256
    ·by_cases q2:x2=s / 65536 % 256
     ·exact .inr (.inr (.inr (.inl ⟨by omega,by omega,by omega,(by have h5:¬ x3=s / 16777216 % 256:=(fun h=>hne ⟨q0,q1,q2,h⟩);omega),rfl⟩)))
     ·exact .inr (.inr (.inl ⟨by omega,by omega,by omega,rfl⟩))
    ·exact .inr (.inl ⟨by omega,by omega,rfl⟩)
   ·exact .inl ⟨by omega,rfl⟩
 obtain ⟨D,HD,hcase⟩:=hcase
 rw [HD.out]
 have hbw:Below w.heap.size w (w.alloc (.cells #[.int .i64 0,.int .i64 0,.int .i64 0,.int .i64 0,.int .i64 0,.int .i64 0,.int .i64 0,.int .i64 0,.int .i64 0] 72)):=(Below.refl _ _).alloc (Nat.le_refl _) _
 have d0:(w.alloc (.cells #[.int .i64 0,.int .i64 0,.int .i64 0,.int .i64 0,.int .i64 0,.int .i64 0,.int .i64 0,.int .i64 0,.int .i64 0] 72)).cell? ⟨b,off+68,none⟩=_:=(hbw.cell (p:=⟨b,off+68,none⟩) hb0).trans c0
 have d1:(w.alloc (.cells #[.int .i64 0,.int .i64 0,.int .i64 0,.int .i64 0,.int .i64 0,.int .i64 0,.int .i64 0,.int .i64 0,.int .i64 0] 72)).cell? ⟨b,off+69,none⟩=_:=(hbw.cell (p:=⟨b,off+69,none⟩) hb0).trans c1
 have d2:(w.alloc (.cells #[.int .i64 0,.int .i64 0,.int .i64 0,.int .i64 0,.int .i64 0,.int .i64 0,.int .i64 0,.int .i64 0,.int .i64 0] 72)).cell? ⟨b,off+70,none⟩=_:=(hbw.cell (p:=⟨b,off+70,none⟩) hb0).trans c2
 have d3:(w.alloc (.cells #[.int .i64 0,.int .i64 0,.int .i64 0,.int .i64 0,.int .i64 0,.int .i64 0,.int .i64 0,.int .i64 0,.int .i64 0] 72)).cell? ⟨b,off+71,none⟩=_:=(hbw.cell (p:=⟨b,off+71,none⟩) hb0).trans c3
 have HX:=Lib.hid hx
 have HL:=Lib.hid hn
 have HB0:=Lib.hid hbw
 clear hx hn h0 h4 hlt c0 c1 c2 c3 HD hbw X0 X1 X2 X3
 rcases hcase with ⟨t0,rfl⟩ | ⟨t0,t1,rfl⟩ | ⟨t0,t1,t2,rfl⟩ | ⟨t0,t1,t2,t3,rfl⟩ | ⟨t0,t1,t2,t3,rfl⟩
 iterate 4
  ·go_enter Tryz.func127,Tryz.ntmps127
   go_wp2_with (first
    |((with_reducible refine Calls.mono (HN0.out _ _ (by rfl) HB0.out) ?_);rintro e1 w1 ⟨rfl,hm⟩;have hh:w1.heap=(w.alloc (.cells #[.int .i64 0,.int .i64 0,.int .i64 0,.int .i64 0,.int .i64 0,.int .i64 0,.int .i64 0,.int .i64 0,.int .i64 0] 72)).heap:=(by obtain ⟨m,rfl⟩:=hm;rfl);have hx1:w1.heap[w.heap.size]?=some (.cells #[.int .i64 0,.int .i64 0,.int .i64 0,.int .i64 0,.int .i64 0,.int .i64 0,.int .i64 0,.int .i64 0,.int .i64 0] 72 (0,0)):=(by rw [hh];exact heap_alloc_new w _);have hwh:World.whole w1 w.heap.size 9 72:=whole_of hx1 rfl;have hb1:Below w.heap.size w w1:=(by obtain ⟨m,rfl⟩:=hm;exact below_drewN ((Below.refl _ _).alloc (Nat.le_refl _) _) m);have f0:w1.cell? ⟨b,off+68,none⟩=some (.int .u8 (x0:Int)):=(by obtain ⟨m,rfl⟩:=hm;exact d0);have f1:w1.cell? ⟨b,off+69,none⟩=some (.int .u8 (x1:Int)):=(by obtain ⟨m,rfl⟩:=hm;exact d1);have f2:w1.cell? ⟨b,off+70,none⟩=some (.int .u8 (x2:Int)):=(by obtain ⟨m,rfl⟩:=hm;exact d2);have f3:w1.cell? ⟨b,off+71,none⟩=some (.int .u8 (x3:Int)):=(by obtain ⟨m,rfl⟩:=hm;exact d3);have HB1:=Lib.hid hb1;have HX1:=Lib.hid hx1;clear hm hh hb1 hx1 d0 d1 d2 d3)
    |((with_reducible refine Calls.mono (HSM.out _ _ HB1.out) ?_);rintro e1 w1' ⟨rfl,rfl⟩)
    |(refine wpList_store_whole 72 (.tmp 2) (.tmp 52) w.heap.size 9 _ 72 (by rfl) (by rfl) hwh (by rfl) (by kernel_rfl) (by kernel_rfl) ?_))
   have hxs:=setAll_self (vs:=#[.int .i64 0,.int .i64 0,.int .i64 0,.int .i64 0,.int .i64 0,.int .i64 0,.int .i64 0,.int .i64 0,.int .i64 0]) hwh rfl
   have y0:(World.setAll w1 w.heap.size #[.int .i64 0,.int .i64 0,.int .i64 0,.int .i64 0,.int .i64 0,.int .i64 0,.int .i64 0,.int .i64 0,.int .i64 0]).cell? ⟨w.heap.size,0,none⟩=some (.int .i64 0):=(block_cell hxs 0 _ rfl).1
   have y1:(World.setAll w1 w.heap.size #[.int .i64 0,.int .i64 0,.int .i64 0,.int .i64 0,.int .i64 0,.int .i64 0,.int .i64 0,.int .i64 0,.int .i64 0]).cell? ⟨w.heap.size,1,none⟩=some (.int .i64 0):=(block_cell hxs 1 _ rfl).1
   have y2:(World.setAll w1 w.heap.size #[.int .i64 0,.int .i64 0,.int .i64 0,.int .i64 0,.int .i64 0,.int .i64 0,.int .i64 0,.int .i64 0,.int .i64 0]).cell? ⟨w.heap.size,2,none⟩=some (.int .i64 0):=(block_cell hxs 2 _ rfl).1
   have y3:(World.setAll w1 w.heap.size #[.int .i64 0,.int .i64 0,.int .i64 0,.int .i64 0,.int .i64 0,.int .i64 0,.int .i64 0,.int .i64 0,.int .i64 0]).cell? ⟨w.heap.size,3,none⟩=some (.int .i64 0):=(block_cell hxs 3 _ rfl).1
   have y4:(World.setAll w1 w.heap.size #[.int .i64 0,.int .i64 0,.int .i64 0,.int .i64 0,.int .i64 0,.int .i64 0,.int .i64 0,.int .i64 0,.int .i64 0]).cell? ⟨w.heap.size,4,none⟩=some (.int .i64 0):=(block_cell hxs 4 _ rfl).1
   have y5:(World.setAll w1 w.heap.size #[.int .i64 0,.int .i64 0,.int .i64 0,.int .i64 0,.int .i64 0,.int .i64 0,.int .i64 0,.int .i64 0,.int .i64 0]).cell? ⟨w.heap.size,5,none⟩=some (.int .i64 0):=(block_cell hxs 5 _ rfl).1
   have y6:(World.setAll w1 w.heap.size #[.int .i64 0,.int .i64 0,.int .i64 0,.int .i64 0,.int .i64 0,.int .i64 0,.int .i64 0,.int .i64 0,.int .i64 0]).cell? ⟨w.heap.size,6,none⟩=some (.int .i64 0):=(block_cell hxs 6 _ rfl).1
   have y7:(World.setAll w1 w.heap.size #[.int .i64 0,.int .i64 0,.int .i64 0,.int .i64 0,.int .i64 0,.int .i64 0,.int .i64 0,.int .i64 0,.int .i64 0]).cell? ⟨w.heap.size,7,none⟩=some (.int .i64 0):=(block_cell hxs 7 _ rfl).1
   have y8:(World.setAll w1 w.heap.size #[.int .i64 0,.int .i64 0,.int .i64 0,.int .i64 0,.int .i64 0,.int .i64 0,.int .i64 0,.int .i64 0,.int .i64 0]).cell? ⟨w.heap.size,8,none⟩=some (.int .i64 0):=(block_cell hxs 8 _ rfl).1
   exact bodyPost_ret (v:=.tuple #[.agg #[.int .i64 0,.int .i64 0,.int .i64 0,.int .i64 0,.int .i64 0,.int .i64 0,.int .i64 0,.int .i64 0,.int .i64 0],.int .i64 10]) (by simp [results,Tryz.results127,go_sem,y0,y1,y2,y3,y4,y5,y6,y7,y8]) rfl ⟨rfl,setAll_below HB1.out (Nat.le_refl _)⟩
 ·go_enter Tryz.func127,Tryz.ntmps127
  go_upto_region 6 with (first
    |((with_reducible refine Calls.mono (HN0.out _ _ (by rfl) HB0.out) ?_);rintro e1 w1 ⟨rfl,hm⟩;have hh:w1.heap=(w.alloc (.cells #[.int .i64 0,.int .i64 0,.int .i64 0,.int .i64 0,.int .i64 0,.int .i64 0,.int .i64 0,.int .i64 0,.int .i64 0] 72)).heap:=(by obtain ⟨m,rfl⟩:=hm;rfl);have hx1:w1.heap[w.heap.size]?=some (.cells #[.int .i64 0,.int .i64 0,.int .i64 0,.int .i64 0,.int .i64 0,.int .i64 0,.int .i64 0,.int .i64 0,.int .i64 0] 72 (0,0)):=(by rw [hh];exact heap_alloc_new w _);have hwh:World.whole w1 w.heap.size 9 72:=whole_of hx1 rfl;have hb1:Below w.heap.size w w1:=(by obtain ⟨m,rfl⟩:=hm;exact below_drewN ((Below.refl _ _).alloc (Nat.le_refl _) _) m);have f0:w1.cell? ⟨b,off+68,none⟩=some (.int .u8 (x0:Int)):=(by obtain ⟨m,rfl⟩:=hm;exact d0);have f1:w1.cell? ⟨b,off+69,none⟩=some (.int .u8 (x1:Int)):=(by obtain ⟨m,rfl⟩:=hm;exact d1);have f2:w1.cell? ⟨b,off+70,none⟩=some (.int .u8 (x2:Int)):=(by obtain ⟨m,rfl⟩:=hm;exact d2);have f3:w1.cell? ⟨b,off+71,none⟩=some (.int .u8 (x3:Int)):=(by obtain ⟨m,rfl⟩:=hm;exact d3);have HB1:=Lib.hid hb1;have HX1:=Lib.hid hx1;clear hm hh hb1 hx1 d0 d1 d2 d3)
    |((with_reducible refine Calls.mono (HSM.out _ _ HB1.out) ?_);rintro e1 w1' ⟨rfl,rfl⟩))
  obtain ⟨v4,HV4⟩:∃ v,Hid (num (seg bs 4 4)=v):=⟨_,Lib.hid rfl⟩
  obtain ⟨v8,HV8⟩:∃ v,Hid (num (seg bs 8 4)=v):=⟨_,Lib.hid rfl⟩
  obtain ⟨vc,HVC⟩:∃ v,Hid (num (seg bs 12 4)=v):=⟨_,Lib.hid rfl⟩
  obtain ⟨vk,HVK⟩:∃ v,Hid (num (seg bs 16 4)=v):=⟨_,Lib.hid rfl⟩
  obtain ⟨z8,HZ8⟩:∃ z,Hid (sg (v8 * 4294967296+vc)=z):=⟨_,Lib.hid rfl⟩
  have h8:v8 < 4294967296:=by rw [← HV8.out];exact num4_lt HX.out.lt HL.out 8 (by omega)
  have hcc:vc < 4294967296:=by rw [← HVC.out];exact num4_lt HX.out.lt HL.out 12 (by omega)
  have hor:bits .or .i64 (wrap64 ((v8:Int) * 4294967296)) (vc:Int)=z8:=(or32w v8 vc h8 hcc).trans HZ8.out
  have HP0:Hid (F.e=(v4:Int)∧F.l=z8∧F.k=(vk:Int)):=Lib.hid (by
   rw [← HF.out]
   exact ⟨congrArg (fun n:Nat=>(n:Int)) HV4.out,by show sg (num (seg bs 8 8))=z8;rw [num_halves HL.out 8 (by omega),HV8.out,HVC.out,HZ8.out],congrArg (fun n:Nat=>(n:Int)) HVK.out⟩)
  have HA4:Hid (∀ W z,z=4→Below w.heap.size w W→Calls Tryz.prog 151 #[.slice (some ⟨b,off,none⟩) 72 cap,.int .i64 z] W fun e w'=>e = .returned (.int .i64 (v4:Int))∧∃ m,w'=W.drewN m):=Lib.hid (fun W z hz hb=>HN.out 4 v4 (by omega) HV4.out W z hz hb)
  have HAK:Hid (∀ W z,z=16→Below w.heap.size w W→Calls Tryz.prog 151 #[.slice (some ⟨b,off,none⟩) 72 cap,.int .i64 z] W fun e w'=>e = .returned (.int .i64 (vk:Int))∧∃ m,w'=W.drewN m):=Lib.hid (fun W z hz hb=>HN.out 16 vk (by omega) HVK.out W z hz hb)
  have HA8:Hid (∀ W z,z=8→Below w.heap.size w W→Calls Tryz.prog 151 #[.slice (some ⟨b,off,none⟩) 72 cap,.int .i64 z] W fun e w'=>e = .returned (.int .i64 (v8:Int))∧∃ m,w'=W.drewN m):=Lib.hid (fun W z hz hb=>HN.out 8 v8 (by omega) HV8.out W z hz hb)
  have HAC:Hid (∀ W z,z=12→Below w.heap.size w W→Calls Tryz.prog 151 #[.slice (some ⟨b,off,none⟩) 72 cap,.int .i64 z] W fun e w'=>e = .returned (.int .i64 (vc:Int))∧∃ m,w'=W.drewN m):=Lib.hid (fun W z hz hb=>HN.out 12 vc (by omega) HVC.out W z hz hb)
  have hl1:w.heap.size < w1.heap.size:=cell_block (block_cell HX1.out 0 (.int .i64 0) rfl).1
  clear h8 hcc t0 t1 t2 t3 f0 f1 f2 f3
  go_wp2_with fail
  refine Calls.mono (HA4.out _ _ (by rfl) HB1.out) ?_
  rintro e1 w2 ⟨rfl,hm⟩
  have hb2:Below w.heap.size w w2:=by obtain ⟨m,rfl⟩:=hm;exact below_drewN HB1.out m
  have hx2:w2.heap[w.heap.size]?=some (.cells #[.int .i64 0,.int .i64 0,.int .i64 0,.int .i64 0,.int .i64 0,.int .i64 0,.int .i64 0,.int .i64 0,.int .i64 0] 72 (0,0)):=by obtain ⟨m,rfl⟩:=hm;exact HX1.out
  have hl2:w.heap.size < w2.heap.size:=by obtain ⟨m,rfl⟩:=hm;exact hl1
  clear hm hwh
  go_wp2_with fail
  refine Calls.mono (HAK.out _ _ (by rfl) hb2) ?_
  rintro e1 w3 ⟨rfl,hm⟩
  have hb3:Below w.heap.size w w3:=by obtain ⟨m,rfl⟩:=hm;exact below_drewN hb2 m
  have HX3:Hid (w3.heap[w.heap.size]?=some (.cells #[.int .i64 0,.int .i64 0,.int .i64 0,.int .i64 0,.int .i64 0,.int .i64 0,.int .i64 0,.int .i64 0,.int .i64 0] 72 (0,0))):=Lib.hid (by obtain ⟨m,rfl⟩:=hm;exact hx2)
  have hl3:w.heap.size < w3.heap.size:=by obtain ⟨m,rfl⟩:=hm;exact hl2
  clear hm hb2 hx2 hl2
  have HB4:Hid (Below w.heap.size w (w3.alloc (.cells #[.int .i64 (v4:Int),.int .i64 0,.int .i64 (vk:Int),.int .i64 0,.int .i64 0,.int .i64 0,.int .i64 0,.int .i64 0,.int .i64 0] 72))):=Lib.hid (hb3.alloc hb3.size _)
  go_wp2_with fail
  refine Calls.mono (HA8.out _ _ (by rfl) HB4.out) ?_
  rintro e1 w4 ⟨rfl,hm⟩
  have hb4:Below w.heap.size w w4:=by obtain ⟨m,rfl⟩:=hm;exact below_drewN HB4.out m
  have HG4:Hid (w4.heap[w3.heap.size]?=some (.cells #[.int .i64 (v4:Int),.int .i64 0,.int .i64 (vk:Int),.int .i64 0,.int .i64 0,.int .i64 0,.int .i64 0,.int .i64 0,.int .i64 0] 72 (0,0))):=Lib.hid (by obtain ⟨m,rfl⟩:=hm;exact heap_alloc_new w3 _)
  have HX4:Hid (w4.heap[w.heap.size]?=some (.cells #[.int .i64 0,.int .i64 0,.int .i64 0,.int .i64 0,.int .i64 0,.int .i64 0,.int .i64 0,.int .i64 0,.int .i64 0] 72 (0,0))):=Lib.hid (by obtain ⟨m,rfl⟩:=hm;exact (Below.heap_alloc w3 _ _ hl3).trans HX3.out)
  clear hm
  go_wp2_with fail
  refine Calls.mono (HAC.out _ _ (by rfl) hb4) ?_
  rintro e1 w5 ⟨rfl,hm⟩
  have hb5:Below w.heap.size w w5:=by obtain ⟨m,rfl⟩:=hm;exact below_drewN hb4 m
  have HG5:Hid (w5.heap[w3.heap.size]?=some (.cells #[.int .i64 (v4:Int),.int .i64 0,.int .i64 (vk:Int),.int .i64 0,.int .i64 0,.int .i64 0,.int .i64 0,.int .i64 0,.int .i64 0] 72 (0,0))):=Lib.hid (by obtain ⟨m,rfl⟩:=hm;exact HG4.out)
  have HX5:Hid (w5.heap[w.heap.size]?=some (.cells #[.int .i64 0,.int .i64 0,.int .i64 0,.int .i64 0,.int .i64 0,.int .i64 0,.int .i64 0,.int .i64 0,.int .i64 0] 72 (0,0))):=Lib.hid (by obtain ⟨m,rfl⟩:=hm;exact HX4.out)
  have k1:w5.cell? ⟨w3.heap.size,1,none⟩=some (.int .i64 0):=(block_cell HG5.out 1 _ rfl).1
  have kf1:w5.frozen? ⟨w3.heap.size,1,none⟩=false:=(block_cell HG5.out 1 (.int .i64 0) rfl).2
  have HG6:Hid ((w5.setCell ⟨w3.heap.size,1,none⟩ (.int .i64 z8)).heap[w3.heap.size]?=some (.cells (part F 0).toArray 72 (0,0))):=Lib.hid (by
   obtain ⟨e1,e2,e3⟩:=HP0.out
   rw [heap_setCell_same w5 w3.heap.size 1 _ _ (.int .i64 z8) HG5.out,part_zero,e1,e2,e3]
   rfl)
  have HX6:Hid ((w5.setCell ⟨w3.heap.size,1,none⟩ (.int .i64 z8)).heap[w.heap.size]?=some (.cells #[.int .i64 0,.int .i64 0,.int .i64 0,.int .i64 0,.int .i64 0,.int .i64 0,.int .i64 0,.int .i64 0,.int .i64 0] 72 (0,0))):=Lib.hid ((Below.heap_setCell _ _ _ _ (by simp;omega)).trans HX5.out)
  have HB6:Hid (Below w.heap.size w (w5.setCell ⟨w3.heap.size,1,none⟩ (.int .i64 z8))):=Lib.hid (hb5.setCell (p:=⟨w3.heap.size,1,none⟩) (by simp;omega) _)
  obtain ⟨g,HG⟩:∃ g,Hid (w3.heap.size=g):=⟨_,Lib.hid rfl⟩
  have hgg:w.heap.size < g:=by rw [← HG.out];exact hl3
  rw [HG.out] at HG6 HX6 HB6 k1 kf1 ⊢
  clear hm hb3 hb4 hb5 HG5 HX5 HG4 HX4 HB4 hl3 hl1
  go_wp2_with fail
  clear hor k1 kf1
  go_loopw [6] (fun i wr => ∃ j:Nat,j≤6∧i = .int .i64 j∧Hid (wr.heap[g]?=some (.cells (part F j).toArray 72 (0,0)))∧Hid (wr.heap[w.heap.size]?=some (.cells #[.int .i64 0,.int .i64 0,.int .i64 0,.int .i64 0,.int .i64 0,.int .i64 0,.int .i64 0,.int .i64 0,.int .i64 0] 72 (0,0)))∧Hid (Below w.heap.size w wr)) (fun i _=>6 - (intOf i).toNat)
  case atStart=>exact ⟨0,by omega,rfl,HG6,HX6,HB6⟩
  case round =>
   obtain ⟨j,hj,rfl,HGr,HXr,HBr⟩:=hrel
   by_cases hlt:j < 6
   ·obtain ⟨vh,HVH⟩:∃ v,Hid (num (seg bs (20+8 * j) 4)=v):=⟨_,Lib.hid rfl⟩
    obtain ⟨vl,HVL⟩:∃ v,Hid (num (seg bs (24+8 * j) 4)=v):=⟨_,Lib.hid rfl⟩
    obtain ⟨z,HZ⟩:∃ z,Hid (sg (vh * 4294967296+vl)=z):=⟨_,Lib.hid rfl⟩
    have hh:vh < 4294967296:=by rw [← HVH.out];exact num4_lt HX.out.lt HL.out _ (by omega)
    have hll:vl < 4294967296:=by rw [← HVL.out];exact num4_lt HX.out.lt HL.out _ (by omega)
    have hor2:bits .or .i64 (wrap64 ((vh:Int) * 4294967296)) (vl:Int)=z:=(or32w vh vl hh hll).trans HZ.out
    have HOR:=Lib.hid hor2
    clear hor2
    have hbz:F.body j=z:=by
     rw [← HF.out,body_parse bs j hlt,num_halves HL.out _ (by omega),HVH.out,show 20+8 * j+4=24+8 * j by omega,HVL.out,HZ.out]
    have HBZ:=Lib.hid hbz
    have HNH:Hid (∀ z,z=20+8 * (j:Int)→Calls Tryz.prog 151 #[.slice (some ⟨b,off,none⟩) 72 cap,.int .i64 z] wr fun e w'=>e = .returned (.int .i64 (vh:Int))∧∃ m,w'=wr.drewN m):=Lib.hid (fun z hz=>HN.out (20+8 * j) vh (by omega) HVH.out wr z (by rw [hz];simp) HBr.out)
    have HNL:Hid (∀ W z,Below w.heap.size w W→z=24+8 * (j:Int)→Calls Tryz.prog 151 #[.slice (some ⟨b,off,none⟩) 72 cap,.int .i64 z] W fun e w'=>e = .returned (.int .i64 (vl:Int))∧∃ m,w'=W.drewN m):=Lib.hid (fun W z hb hz=>HN.out (24+8 * j) vl (by omega) HVL.out W z (by rw [hz];simp) hb)
    have hpj:(part F j).toArray[3+j]?=some (.int .i64 0):=by
     rcases (show j=0∨j=1∨j=2∨j=3∨j=4∨j=5 by omega) with rfl | rfl | rfl | rfl | rfl | rfl<;>rfl
    have HPJ:=Lib.hid hpj
    clear hh hll hbz hpj
    go_wp2_with fail
    refine Calls.mono (HNH.out _ (by rfl)) ?_
    rintro e1 w7 ⟨rfl,hm⟩
    have hb7:Below w.heap.size w w7:=(by obtain ⟨m,rfl⟩:=hm;exact below_drewN HBr.out m)
    have HG7:Hid (w7.heap[g]?=some (.cells (part F j).toArray 72 (0,0))):=Lib.hid (by obtain ⟨m,rfl⟩:=hm;exact HGr.out)
    have HX7:Hid (w7.heap[w.heap.size]?=some (.cells #[.int .i64 0,.int .i64 0,.int .i64 0,.int .i64 0,.int .i64 0,.int .i64 0,.int .i64 0,.int .i64 0,.int .i64 0] 72 (0,0))):=Lib.hid (by obtain ⟨m,rfl⟩:=hm;exact HXr.out)
    clear hm
    go_wp2_with fail
    refine Calls.mono (HNL.out _ _ hb7 (by rfl)) ?_
    rintro e1 w8 ⟨rfl,hm⟩
    have hb8:Below w.heap.size w w8:=(by obtain ⟨m,rfl⟩:=hm;exact below_drewN hb7 m)
    have HG8:Hid (w8.heap[g]?=some (.cells (part F j).toArray 72 (0,0))):=Lib.hid (by obtain ⟨m,rfl⟩:=hm;exact HG7.out)
    have HX8:Hid (w8.heap[w.heap.size]?=some (.cells #[.int .i64 0,.int .i64 0,.int .i64 0,.int .i64 0,.int .i64 0,.int .i64 0,.int .i64 0,.int .i64 0,.int .i64 0] 72 (0,0))):=Lib.hid (by obtain ⟨m,rfl⟩:=hm;exact HX7.out)
    have k0:w8.cell? ⟨g,3+j,none⟩=some (.int .i64 0):=(block_cell HG8.out (3+j) _ HPJ.out).1
    have kf:w8.frozen? ⟨g,3+j,none⟩=false:=(block_cell HG8.out (3+j) _ HPJ.out).2
    clear hm hb7
    have hor2:=HOR.out
    go_wp2_with fail
    go_roundw
    case rel =>
     refine ⟨j+1,by omega,by go_num,Lib.hid ?_,Lib.hid ((Below.heap_setCell _ _ _ _ (by simp;omega)).trans HX8.out),Lib.hid (hb8.setCell (p:=⟨g,3+j,none⟩) (by simp;omega) _)⟩
     rw [heap_setCell_same w8 g (3+j) _ _ (.int .i64 z) HG8.out]
     congr 2
     rw [← part_set F j hlt,HBZ.out]
     simp
    case measure=>first | (simp [intOf];done) | (simp [intOf];omega)
   ·obtain rfl:j=6:=by omega
    rw [part_all] at HGr
    obtain ⟨e,l,k,b0,b1,b2,b3,b4,b5⟩:=F
    obtain ⟨r,HR⟩:∃ r,Hid (right ⟨e,l,k,b0,b1,b2,b3,b4,b5⟩=r):=⟨_,Lib.hid rfl⟩
    have HRT:Hid (Calls Tryz.prog 63 #[.agg #[.int .i64 e,.int .i64 l,.int .i64 k,.int .i64 b0,.int .i64 b1,.int .i64 b2,.int .i64 b3,.int .i64 b4,.int .i64 b5]] wr fun e w'=>e = .returned (.bool r)∧Below wr.heap.size wr w'):=Lib.hid (rright_of (f:=⟨e,l,k,b0,b1,b2,b3,b4,b5⟩) rfl HR.out wr)
    have HGr' : Hid (wr.heap[g]?=some (.cells #[.int .i64 e,.int .i64 l,.int .i64 k,.int .i64 b0,.int .i64 b1,.int .i64 b2,.int .i64 b3,.int .i64 b4,.int .i64 b5] 72 (0,0))):=HGr
    have k0:wr.cell? ⟨g,0,none⟩=some (.int .i64 e):=(block_cell HGr'.out 0 _ rfl).1
    have k1:wr.cell? ⟨g,1,none⟩=some (.int .i64 l):=(block_cell HGr'.out 1 _ rfl).1
    have k2:wr.cell? ⟨g,2,none⟩=some (.int .i64 k):=(block_cell HGr'.out 2 _ rfl).1
    have k3:wr.cell? ⟨g,3,none⟩=some (.int .i64 b0):=(block_cell HGr'.out 3 _ rfl).1
    have k4:wr.cell? ⟨g,4,none⟩=some (.int .i64 b1):=(block_cell HGr'.out 4 _ rfl).1
    have k5:wr.cell? ⟨g,5,none⟩=some (.int .i64 b2):=(block_cell HGr'.out 5 _ rfl).1
    have k6:wr.cell? ⟨g,6,none⟩=some (.int .i64 b3):=(block_cell HGr'.out 6 _ rfl).1
    have k7:wr.cell? ⟨g,7,none⟩=some (.int .i64 b4):=(block_cell HGr'.out 7 _ rfl).1
    have k8:wr.cell? ⟨g,8,none⟩=some (.int .i64 b5):=(block_cell HGr'.out 8 _ rfl).1
    have hgl:g < wr.heap.size:=cell_block k0
    rw [HR.out] at HRR
    rcases r with _ | _
    ·go_wp2_with (first
      |(refine wpList_store_whole 72 (.tmp 2) (.tmp 87) w.heap.size 9 _ 72 (by rfl) (by rfl) hwh9 (by rfl) (by kernel_rfl) (by kernel_rfl) ?_)
      |((with_reducible refine Calls.mono HRT.out ?_);rintro e9 w9 ⟨rfl,hb9⟩;have hwh9:World.whole w9 w.heap.size 9 72:=whole_of ((hb9.block w.heap.size (by omega)).trans HXr.out) rfl;have HB9:=Lib.hid (HBr.out.trans (hb9.mono HBr.out.size));clear hb9))
     have hxs:=setAll_self (vs:=#[.int .i64 0,.int .i64 0,.int .i64 0,.int .i64 0,.int .i64 0,.int .i64 0,.int .i64 0,.int .i64 0,.int .i64 0]) hwh9 rfl
     have y0:(World.setAll w9 w.heap.size #[.int .i64 0,.int .i64 0,.int .i64 0,.int .i64 0,.int .i64 0,.int .i64 0,.int .i64 0,.int .i64 0,.int .i64 0]).cell? ⟨w.heap.size,0,none⟩=some (.int .i64 0):=(block_cell hxs 0 _ rfl).1
     have y1:(World.setAll w9 w.heap.size #[.int .i64 0,.int .i64 0,.int .i64 0,.int .i64 0,.int .i64 0,.int .i64 0,.int .i64 0,.int .i64 0,.int .i64 0]).cell? ⟨w.heap.size,1,none⟩=some (.int .i64 0):=(block_cell hxs 1 _ rfl).1
     have y2:(World.setAll w9 w.heap.size #[.int .i64 0,.int .i64 0,.int .i64 0,.int .i64 0,.int .i64 0,.int .i64 0,.int .i64 0,.int .i64 0,.int .i64 0]).cell? ⟨w.heap.size,2,none⟩=some (.int .i64 0):=(block_cell hxs 2 _ rfl).1
     have y3:(World.setAll w9 w.heap.size #[.int .i64 0,.int .i64 0,.int .i64 0,.int .i64 0,.int .i64 0,.int .i64 0,.int .i64 0,.int .i64 0,.int .i64 0]).cell? ⟨w.heap.size,3,none⟩=some (.int .i64 0):=(block_cell hxs 3 _ rfl).1
     have y4:(World.setAll w9 w.heap.size #[.int .i64 0,.int .i64 0,.int .i64 0,.int .i64 0,.int .i64 0,.int .i64 0,.int .i64 0,.int .i64 0,.int .i64 0]).cell? ⟨w.heap.size,4,none⟩=some (.int .i64 0):=(block_cell hxs 4 _ rfl).1
     have y5:(World.setAll w9 w.heap.size #[.int .i64 0,.int .i64 0,.int .i64 0,.int .i64 0,.int .i64 0,.int .i64 0,.int .i64 0,.int .i64 0,.int .i64 0]).cell? ⟨w.heap.size,5,none⟩=some (.int .i64 0):=(block_cell hxs 5 _ rfl).1
     have y6:(World.setAll w9 w.heap.size #[.int .i64 0,.int .i64 0,.int .i64 0,.int .i64 0,.int .i64 0,.int .i64 0,.int .i64 0,.int .i64 0,.int .i64 0]).cell? ⟨w.heap.size,6,none⟩=some (.int .i64 0):=(block_cell hxs 6 _ rfl).1
     have y7:(World.setAll w9 w.heap.size #[.int .i64 0,.int .i64 0,.int .i64 0,.int .i64 0,.int .i64 0,.int .i64 0,.int .i64 0,.int .i64 0,.int .i64 0]).cell? ⟨w.heap.size,7,none⟩=some (.int .i64 0):=(block_cell hxs 7 _ rfl).1
     have y8:(World.setAll w9 w.heap.size #[.int .i64 0,.int .i64 0,.int .i64 0,.int .i64 0,.int .i64 0,.int .i64 0,.int .i64 0,.int .i64 0,.int .i64 0]).cell? ⟨w.heap.size,8,none⟩=some (.int .i64 0):=(block_cell hxs 8 _ rfl).1
     exact bodyPost_ret (v:=.tuple #[.agg #[.int .i64 0,.int .i64 0,.int .i64 0,.int .i64 0,.int .i64 0,.int .i64 0,.int .i64 0,.int .i64 0,.int .i64 0],.int .i64 2]) (by simp [results,Tryz.results127,go_sem,y0,y1,y2,y3,y4,y5,y6,y7,y8]) rfl ⟨by rw [← HRR.out];rfl,setAll_below HB9.out (Nat.le_refl _)⟩
    ·go_wp2_with (first
      |(refine wpList_store_whole 72 (.tmp 2) (.tmp 88) w.heap.size 9 _ 72 (by rfl) (by rfl) hwh9 (by rfl) (by kernel_rfl) (by kernel_rfl) ?_)
      |((with_reducible refine Calls.mono HRT.out ?_);rintro e9 w9 ⟨rfl,hb9⟩;have hwh9:World.whole w9 w.heap.size 9 72:=whole_of ((hb9.block w.heap.size (by omega)).trans HXr.out) rfl;have HB9:=Lib.hid (HBr.out.trans (hb9.mono HBr.out.size));have hbl9:=(hb9.block g hgl).trans HGr'.out;have m0:w9.cell? ⟨g,0,none⟩=some (.int .i64 e):=(block_cell hbl9 0 _ rfl).1;have m1:w9.cell? ⟨g,1,none⟩=some (.int .i64 l):=(block_cell hbl9 1 _ rfl).1;have m2:w9.cell? ⟨g,2,none⟩=some (.int .i64 k):=(block_cell hbl9 2 _ rfl).1;have m3:w9.cell? ⟨g,3,none⟩=some (.int .i64 b0):=(block_cell hbl9 3 _ rfl).1;have m4:w9.cell? ⟨g,4,none⟩=some (.int .i64 b1):=(block_cell hbl9 4 _ rfl).1;have m5:w9.cell? ⟨g,5,none⟩=some (.int .i64 b2):=(block_cell hbl9 5 _ rfl).1;have m6:w9.cell? ⟨g,6,none⟩=some (.int .i64 b3):=(block_cell hbl9 6 _ rfl).1;have m7:w9.cell? ⟨g,7,none⟩=some (.int .i64 b4):=(block_cell hbl9 7 _ rfl).1;have m8:w9.cell? ⟨g,8,none⟩=some (.int .i64 b5):=(block_cell hbl9 8 _ rfl).1;clear hbl9;clear hb9))
     have hxs:=setAll_self (vs:=#[.int .i64 e,.int .i64 l,.int .i64 k,.int .i64 b0,.int .i64 b1,.int .i64 b2,.int .i64 b3,.int .i64 b4,.int .i64 b5]) hwh9 rfl
     have y0:(World.setAll w9 w.heap.size #[.int .i64 e,.int .i64 l,.int .i64 k,.int .i64 b0,.int .i64 b1,.int .i64 b2,.int .i64 b3,.int .i64 b4,.int .i64 b5]).cell? ⟨w.heap.size,0,none⟩=some (.int .i64 e):=(block_cell hxs 0 _ rfl).1
     have y1:(World.setAll w9 w.heap.size #[.int .i64 e,.int .i64 l,.int .i64 k,.int .i64 b0,.int .i64 b1,.int .i64 b2,.int .i64 b3,.int .i64 b4,.int .i64 b5]).cell? ⟨w.heap.size,1,none⟩=some (.int .i64 l):=(block_cell hxs 1 _ rfl).1
     have y2:(World.setAll w9 w.heap.size #[.int .i64 e,.int .i64 l,.int .i64 k,.int .i64 b0,.int .i64 b1,.int .i64 b2,.int .i64 b3,.int .i64 b4,.int .i64 b5]).cell? ⟨w.heap.size,2,none⟩=some (.int .i64 k):=(block_cell hxs 2 _ rfl).1
     have y3:(World.setAll w9 w.heap.size #[.int .i64 e,.int .i64 l,.int .i64 k,.int .i64 b0,.int .i64 b1,.int .i64 b2,.int .i64 b3,.int .i64 b4,.int .i64 b5]).cell? ⟨w.heap.size,3,none⟩=some (.int .i64 b0):=(block_cell hxs 3 _ rfl).1
     have y4:(World.setAll w9 w.heap.size #[.int .i64 e,.int .i64 l,.int .i64 k,.int .i64 b0,.int .i64 b1,.int .i64 b2,.int .i64 b3,.int .i64 b4,.int .i64 b5]).cell? ⟨w.heap.size,4,none⟩=some (.int .i64 b1):=(block_cell hxs 4 _ rfl).1
     have y5:(World.setAll w9 w.heap.size #[.int .i64 e,.int .i64 l,.int .i64 k,.int .i64 b0,.int .i64 b1,.int .i64 b2,.int .i64 b3,.int .i64 b4,.int .i64 b5]).cell? ⟨w.heap.size,5,none⟩=some (.int .i64 b2):=(block_cell hxs 5 _ rfl).1
     have y6:(World.setAll w9 w.heap.size #[.int .i64 e,.int .i64 l,.int .i64 k,.int .i64 b0,.int .i64 b1,.int .i64 b2,.int .i64 b3,.int .i64 b4,.int .i64 b5]).cell? ⟨w.heap.size,6,none⟩=some (.int .i64 b3):=(block_cell hxs 6 _ rfl).1
     have y7:(World.setAll w9 w.heap.size #[.int .i64 e,.int .i64 l,.int .i64 k,.int .i64 b0,.int .i64 b1,.int .i64 b2,.int .i64 b3,.int .i64 b4,.int .i64 b5]).cell? ⟨w.heap.size,7,none⟩=some (.int .i64 b4):=(block_cell hxs 7 _ rfl).1
     have y8:(World.setAll w9 w.heap.size #[.int .i64 e,.int .i64 l,.int .i64 k,.int .i64 b0,.int .i64 b1,.int .i64 b2,.int .i64 b3,.int .i64 b4,.int .i64 b5]).cell? ⟨w.heap.size,8,none⟩=some (.int .i64 b5):=(block_cell hxs 8 _ rfl).1
     exact bodyPost_ret (v:=.tuple #[.agg #[.int .i64 e,.int .i64 l,.int .i64 k,.int .i64 b0,.int .i64 b1,.int .i64 b2,.int .i64 b3,.int .i64 b4,.int .i64 b5],.int .i64 0]) (by simp [results,Tryz.results127,go_sem,y0,y1,y2,y3,y4,y5,y6,y7,y8]) rfl ⟨by rw [← HRR.out];rfl,setAll_below HB9.out (Nat.le_refl _)⟩
theorem rdecode_any (A:Option Addr) (n cap:Nat) (bs:List Nat) (w:World) (hx:Bys w w.heap.size A bs) (hn:bs.length=n) (hc:n≤cap) (hcm:cap≤9223372036854775807) :
  Calls Tryz.prog 127 #[.slice A n cap] w (Decoded (dec bs) w):=by
 by_cases h:n=72
 ·subst h
  obtain ⟨b,off,c,rfl,_⟩:=hx.at_ (j:=0) (by omega)
  by_cases h0:num (seg bs 0 4)=72
  ·exact rdecode_72 b off cap bs w hx hn hc hcm h0
  ·exact rdecode_head b off cap _ bs w hx hn rfl h0
 ·exact rdecode_short A n cap bs w hn h
theorem rdecode_of {A:Option Addr} {n cap B:Nat} {bs:List Nat} {d:Int} {e l k b0 b1 b2 b3 b4 b5:Int} (W:World) (hx:Bys W B A bs) (hB:B≤W.heap.size) (hn:bs.length=n) (hc:n≤cap) (hcm:cap≤9223372036854775807) (h:dec bs=(d,⟨e,l,k,b0,b1,b2,b3,b4,b5⟩)) :
  Calls Tryz.prog 127 #[.slice A n cap] W fun e' w'=>e' = .returned (.tuple #[.agg #[.int .i64 e,.int .i64 l,.int .i64 k,.int .i64 b0,.int .i64 b1,.int .i64 b2,.int .i64 b3,.int .i64 b4,.int .i64 b5],.int .i64 d])∧Below W.heap.size W w':=by
 have:=rdecode_any A n cap bs W (hx.more hB) hn hc hcm
 rw [h] at this
 exact this
end Go.Proofs.YtepfmpmphcndjaaGreatDoor.frame
end
section
namespace Go.Proofs.YtepfmpmphcndjaaGreatDoor.scan
set_option maxRecDepth 20000
open Go.RowKit Go.Proofs.YtepfmpmphcndjaaGreatDoor Go.Proofs.YtepfmpmphcndjaaGreatDoor.frame
def allRight (l:List Fr):Bool:=l.all right
def Putted (l:List Fr) (w:World) (e:Ending) (w' : World):Prop :=
 ∃ A c,e = .returned (.tuple #[.slice A (72 * l.length) c,.int .i64 0])∧OwnBys w' w.heap.size 5 A (72 * l.length) c (put l)∧Below w.heap.size w w'
theorem put_take {l:List Fr} {j:Nat} {f:Fr} (h:l[j]?=some f):put (l.take (j+1))=put (l.take j)++enc f:=by
 rw [List.take_add_one,h];simp [put]
theorem right_take {l:List Fr} {j:Nat} {f:Fr} (h:l[j]?=some f) (h1:allRight l=true):right f=true:=by
 unfold allRight at h1;rw [List.all_eq_true] at h1
 exact h1 f (List.mem_of_getElem? h)
set_option maxHeartbeats 2000000 in
theorem put_yes (A:Option Addr) (m c:Nat) (l:List Fr) (w:World) (hx:Frs w w.heap.size A l) (hm:l.length=m) (hmax:m≤100) (hr:allRight l=true) :
  Calls Tryz.prog 67 #[.slice A m c] w (Putted l w):=by
 have HM:Hid (l.length=m):=Lib.hid hm
 have HR:Hid (allRight l=true):=Lib.hid hr
 clear hm hr
 have hinfo:Hid ((Tryz.prog.info? 5).map (fun i=>(i.zero,i.size,i.bytes))=some (some (.int .u8 0),1,1)):=Lib.hid (by kernel_rfl)
 go_enter Tryz.func67,Tryz.ntmps67
 go_wp2
 go_loopw [4,11] (fun s i wr => ∃ (j c' : Nat) (A' : Option Addr),j≤m∧i = .int .i64 j∧s = .slice A' (72 * j) c'∧Hid (OwnBys wr w.heap.size 5 A' (72 * j) c' (put (l.take j)))∧Below w.heap.size w wr) (fun _ i _=>m - (intOf i).toNat)
 case atStart=>exact ⟨0,0,none,Nat.zero_le _,rfl,rfl,Lib.hid OwnBys.nil,Below.refl _ _⟩
 case round =>
  obtain ⟨j,c',A',hj,rfl,rfl,HO,hbr⟩:=hrel
  by_cases hlt:j < m
  ·obtain ⟨b,off,e,k,kd,b0,b1,b2,b3,b4,b5,rfl,hb,HX,x0,x1,x2,x3,x4,x5,x6,x7,x8,HF⟩:=(hx.below hbr).at_ (j:=j) (by rw [HM.out];exact hlt)
   have hsz:=hbr.size
   have hblt:b < wr.heap.size:=by omega
   obtain ⟨f,HFF⟩:∃ f,Hid ((⟨e,k,kd,b0,b1,b2,b3,b4,b5⟩:Fr)=f):=⟨_,Lib.hid rfl⟩
   have HC:Hid (∀ W,Calls Tryz.prog 106 #[.agg #[.int .i64 e,.int .i64 k,.int .i64 kd,.int .i64 b0,.int .i64 b1,.int .i64 b2,.int .i64 b3,.int .i64 b4,.int .i64 b5]] W (Encoded f W)):=Lib.hid (fun W=>encode_yes_of HFF.out (by rw [← HFF.out];exact HF.out) (right_take (by rw [HX.out,HFF.out]) HR.out) W)
   have HP:Hid (put (l.take (j+1))=put (l.take j)++enc f):=Lib.hid (put_take (by rw [HX.out,HFF.out]))
   have HW:=Lib.hid (hbr.alloc hsz (.cells #[.int .i64 e,.int .i64 k,.int .i64 kd,.int .i64 b0,.int .i64 b1,.int .i64 b2,.int .i64 b3,.int .i64 b4,.int .i64 b5] 72))
   go_wp2_with fail
   refine Calls.mono (HC.out _) ?_
   rintro e1 w1 ⟨g,rfl,hown,hb1⟩
   have HB1:=Lib.hid (HW.out.trans (hb1.mono (by simp;omega)))
   have HO1:Hid (OwnBys w1 w.heap.size 5 A' (72 * j) c' (put (l.take j))):=Lib.hid (own_later (own_later HO.out ((Below.refl _ _).alloc (Nat.le_refl _) _)) hb1)
   have HG1:=Lib.hid hown.bys
   have hsz1:w.heap.size≤w1.heap.size:=HB1.out.size
   clear hb1 hown
   go_wp2_with (at_builtin;refine wpList_append_bys rfl (.tmp 23) (.tmp 24) _ rfl w.heap.size 5 Tryz.underlying62 hinfo.out rfl HO1.out rfl HG1.out (enc_len f) (by omega) hsz1 ?_;intro A3 c3 w3 hown3 hgr3 hat3;have HO3:Hid (OwnBys w3 w.heap.size 5 A3 (72 * (j+1)) c3 (put (l.take (j+1)))):=Lib.hid (by rw [HP.out];exact hown3);have hb3:Below w.heap.size w w3:=HB1.out.grown hgr3 hsz1 (fun g hg=>(HO1.out.block g hg).1);clear hgr3 hat3 hown3)
   go_roundw
   case rel=>exact ⟨j+1,c3,A3,by omega,by go_num,rfl,HO3,hb3⟩
   case measure=>first | (simp [intOf];done) | (simp [intOf];omega)
  ·have HE:Hid (l.take j=l):=Lib.hid (List.take_of_length_le (by rw [HM.out];omega))
   have hjm:j=m:=by omega
   subst hjm
   go_wp2
   go_ret2
   refine ⟨A',c',by rw [HM.out];rfl,by rw [HM.out];have:=HO.out;rw [HE.out] at this;exact this,hbr⟩
set_option maxHeartbeats 2000000 in
theorem rput_any (A:Option Addr) (m c:Nat) (l:List Fr) (w:World) (hx:Frs w w.heap.size A l) (hm:l.length=m) (hmax:m≤100) :
  Calls Tryz.prog 40 #[.slice A m c] w (Made (put l) (72 * m) w):=by
 have HM:Hid (l.length=m):=Lib.hid hm
 clear hm
 have hinfo:Hid ((Tryz.prog.info? 5).map (fun i=>(i.zero,i.size,i.bytes))=some (some (.int .u8 0),1,1)):=Lib.hid (by kernel_rfl)
 go_enter Tryz.func40,Tryz.ntmps40
 go_wp2
 go_loopw [3,4] (fun s i wr => ∃ (j c' : Nat) (A' : Option Addr),j≤m∧i = .int .i64 j∧s = .slice A' (72 * j) c'∧Hid (OwnBys wr w.heap.size 5 A' (72 * j) c' (put (l.take j)))∧Below w.heap.size w wr) (fun _ i _=>m - (intOf i).toNat)
 case atStart=>exact ⟨0,0,none,Nat.zero_le _,rfl,rfl,Lib.hid OwnBys.nil,Below.refl _ _⟩
 case round =>
  obtain ⟨j,c',A',hj,rfl,rfl,HO,hbr⟩:=hrel
  by_cases hlt:j < m
  ·obtain ⟨b,off,e,k,kd,b0,b1,b2,b3,b4,b5,rfl,hb,HX,x0,x1,x2,x3,x4,x5,x6,x7,x8,HF⟩:=(hx.below hbr).at_ (j:=j) (by rw [HM.out];exact hlt)
   have hsz:=hbr.size
   have hblt:b < wr.heap.size:=by omega
   obtain ⟨f,HFF⟩:∃ f,Hid ((⟨e,k,kd,b0,b1,b2,b3,b4,b5⟩:Fr)=f):=⟨_,Lib.hid rfl⟩
   have HC:Hid (∀ W,Calls Tryz.prog 75 #[.agg #[.int .i64 e,.int .i64 k,.int .i64 kd,.int .i64 b0,.int .i64 b1,.int .i64 b2,.int .i64 b3,.int .i64 b4,.int .i64 b5]] W (Made (enc f) 72 W)):=Lib.hid (fun W=>rencode_of HFF.out W)
   have HP:Hid (put (l.take (j+1))=put (l.take j)++enc f):=Lib.hid (put_take (by rw [HX.out,HFF.out]))
   have HW:=Lib.hid hbr
   go_wp2_with fail
   refine Calls.mono (HC.out _) ?_
   rintro e1 w1 ⟨A1,c1,rfl,hown,hb1⟩
   have HB1:=Lib.hid (HW.out.trans (hb1.mono hsz))
   have HO1:Hid (OwnBys w1 w.heap.size 5 A' (72 * j) c' (put (l.take j))):=Lib.hid (own_later HO.out hb1)
   have HG1:=Lib.hid hown.bys
   have hsz1:w.heap.size≤w1.heap.size:=HB1.out.size
   clear hb1 hown
   go_wp2_with (at_builtin;refine wpList_append_bys rfl (.tmp 11) (.tmp 16) _ rfl w.heap.size 5 Tryz.underlying62 hinfo.out rfl HO1.out rfl HG1.out (enc_len f) (by omega) hsz1 ?_;intro A3 c3 w3 hown3 hgr3 hat3;have HO3:Hid (OwnBys w3 w.heap.size 5 A3 (72 * (j+1)) c3 (put (l.take (j+1)))):=Lib.hid (by rw [HP.out];exact hown3);have hb3:Below w.heap.size w w3:=HB1.out.grown hgr3 hsz1 (fun g hg=>(HO1.out.block g hg).1);clear hgr3 hat3 hown3)
   go_roundw
   case rel=>exact ⟨j+1,c3,A3,by omega,by go_num,rfl,HO3,hb3⟩
   case measure=>first | (simp [intOf];done) | (simp [intOf];omega)
  ·have HE:Hid (l.take j=l):=Lib.hid (List.take_of_length_le (by rw [HM.out];omega))
   have hjm:j=m:=by omega
   subst hjm
   go_wp2
   go_ret
   refine ⟨A',c',rfl,by have:=HO.out;rw [HE.out] at this;exact this,hbr⟩
end Go.Proofs.YtepfmpmphcndjaaGreatDoor.scan
end
