/-
  Awake13
-/
import Derived.Test.YtbbjlfbemibfcaaGreatMrt17
import Derived.Test.YtbbjlfbemibfcaaGreatMrt49
import Derived.Test.YtbbjlfbemibfcaaGreatMrt50
import Derived.Test.YtbbjlfbemibfcaaGreatMrt45
set_option linter.unusedVariables false
set_option linter.unusedSimpArgs false
namespace Go.Proofs.YtbbjlfbemibfcaaGreat.book
open Go.RowKit Go.Proofs.YtbbjlfbemibfcaaGreat
open Go.Proofs.YtbbjlfbemibfcaaGreat.order (Or open_ worth)
open Go.Proofs.YtbbjlfbemibfcaaGreat.cell (Ce Ex)
open Go.Proofs.YtbbjlfbemibfcaaGreat.rec (Rc)
set_option maxRecDepth 20000
open Go.Proofs.YtbbjlfbemibfcaaGreat.row (encV decV whole zst readF sizeV zsv toI_len el_later l_Encode l_Decode l_Decode_no l_Size l_Same MayBe info_u8 byte_cells)
def gL:Ex:=⟨9,9,99⟩
def gS:St:=newS 1 1 gL 99
def gR:Rc:=⟨1,5,0,0,2,3,2,0,0,0,false,0,0⟩
def gT:St:=(do_ gS gR).1
def gB:List Nat:=whole gT
theorem gL_fine:gL.fine:=by unfold gL Ex.fine frame.inR;simp
theorem gR_fine:gR.fine:=by unfold gR Rc.fine frame.inR;simp
theorem gT_fine:frame.inR gT.a∧frame.inR gT.y∧frame.inR gT.last∧frame.inR gT.seq∧frame.inR gT.lsn:=by unfold frame.inR;decide +kernel
theorem gw_new {w0:World} {D:List Fact} {S:Nat→Prop} {W:World} (hd:Fixed w0 D S W):GivesM Tryz.prog w0 D 20 #[.int .i64 1,.int .i64 1,.agg (cell.xc gL),.int .i64 99] (Dat (fun w S v=>InS w S v gS) S W) (fun x=>.tuple #[.agg (stc x.1.2.2 gS),.int .i64 0]) (fun x=>[poolF x.1.1 x.1.2.1]) :=
 gives_dat (R:=fun w S v=>InS w S v gS) (r:=fun b=>.tuple #[.agg (stc b gS),.int .i64 0]) hd (fun w hw ha=>(bnew 1 1 gL 99 w (by unfold frame.inR;omega) (by unfold frame.inR;omega) gL_fine (by unfold frame.inR;omega)).mono (by
  rw [show newV 1 1 gL 99=(gS,0) by decide +kernel]
  rintro e w' ⟨x,rfl,hb,hi⟩
  exact ⟨x,rfl,hb,hi.keep (alike_refl _ _) (fun _ h=>.inr h)⟩))
theorem fixed_pool2 {w0:World} {D:List Fact} {W:World} {t:St} (x:Dat (fun w S v=>InS w S v t) (fun _=>False) W) {i:Nat} (hi:D[i]?=some (poolF x.1.1 x.1.2.1)):Fixed w0 D x.1.2.1 x.1.1:=fun w hw ha=>⟨pool_at hi ha,fun k hk=>by
 have h1:=pool_at hi ha k hk
 rw [Array.getElem?_eq_getElem (x.2.2.2 k hk)] at h1
 exact (Array.getElem?_eq_some_iff.1 h1).1⟩
theorem gw_low {w0:World} {D:List Fact} {W:World} {t:St} (x:Dat (fun w S v=>InS w S v t) (fun _=>False) W) {i:Nat} (hi:D[i]?=some (poolF x.1.1 x.1.2.1)):∀ w,Below w0.heap.size w0 w→All D w→InS w x.1.2.1 x.1.2.2 t :=
 fun w hw ha=>(x.later (keeps_in t) (fun k hk=>hk.elim) (pool_at hi ha)).keep (alike_refl _ _) (fun k h=>h.resolve_left id)
section
variable {w0:World} {D:List Fact} {v u:Sv} {g:Nat}
theorem gw_do {S:Nat→Prop} {W:World} (hd:Fixed w0 D S W) (hs:∀ w,Below w0.heap.size w0 w→All D w→InS w S v gS):GivesM Tryz.prog w0 D 19 #[.agg (stc v gS),.agg (rec.rc gR)] (Dat (fun w S v=>InS w S v gT) S W) (fun x=>.tuple #[.agg (stc x.1.2.2 gT),.int .i64 0]) (fun x=>[poolF x.1.1 x.1.2.1]):=by
 have h:=i_do hd hs gR_fine
 rw [show (do_ gS gR).2=0 by decide +kernel] at h
 exact h
theorem gw_enc (hs:∀ w,Below w0.heap.size w0 w→All D w→InS w (Lt w.heap.size) v gT):GivesM Tryz.prog w0 D 10 #[.agg (stc v gT)] (Option Addr × Nat) (fun x=>.tuple #[.slice x.1 137 x.2,.int .i64 0]) (fun x=>[ownF (rdInt .u8) 1 5 x.1 137 x.2 (toI gB)]):=fun w hw ha=>by
 have h:=l_Encode v gT w (hs w hw ha)
 rw [show encV gT=(gB,0) by decide +kernel] at h
 have e:(toI gB).length=137:=by decide +kernel
 simp only [e] at h
 exact h
theorem gw_dec_any {A:Option Addr} {c:Nat} {L:List Nat} {s:St} {r:Int} (h:∀ w,Below w0.heap.size w0 w→All D w→Elems (rdInt .u8) 1 w (Lt w.heap.size) A (toI L)∧L.length≤c) (hl:L.length≤1000) (hv:decV L=(s,r)) :
  GivesM Tryz.prog w0 D 14 #[.slice A (toI L).length c] Sv (fun x=>.tuple #[.agg (stc x s),.int .i64 r]) (fun x=>readF x s):=fun w hw ha=>by
 obtain ⟨hx,hc⟩:=h w hw ha
 by_cases hm:MayBe L
 ·have h0:0 < (toI L).length:=by rw [toI_len];have:=hm.1;omega
  obtain ⟨b,off,e,_⟩:=hx h0
  subst e
  have:=l_Decode L b off c w hx hc (by omega)
  rw [hv] at this;exact this
 ·have:=l_Decode_no L A c w hx hc (by omega) hm
  rw [hv] at this;exact this
theorem gw_dec {A:Option Addr} {c:Nat} (h:∀ w,All D w→OwnElems (rdInt .u8) 1 w 0 5 (fun _=>False) A 137 c (toI gB)) :
  GivesM Tryz.prog w0 D 14 #[.slice A 137 c] Sv (fun x=>.tuple #[.agg (stc x gT),.int .i64 0]) (fun x=>readF x gT):=by
 have:=gw_dec_any (w0:=w0) (D:=D) (A:=A) (c:=c) (L:=gB) (fun w _ ha=>⟨(h w ha).elems (S':=Lt w.heap.size) (keeps_int _) (by decide) (fun _ h=>h.elim) (fun _ _ h=>h),by
  have:=(h w ha).cap.1
  have e:gB.length=137:=by decide +kernel
  omega⟩) (by decide +kernel) (show decV gB=(gT,0) by decide +kernel)
 rw [show (toI gB).length=137 by decide +kernel] at this
 exact this
theorem gw_dec2 {A:Option Addr} {c:Nat} (h:∀ w,All D w→OwnElems (rdInt .u8) 1 w 0 5 (fun _=>False) A 137 c (toI gB)) :
  GivesM Tryz.prog w0 D 14 #[.slice A 136 c] Sv (fun x=>.tuple #[.agg (stc x zst),.int .i64 2]) (fun x=>readF x zst):=by
 have et:toI (gB.take 136)=(toI gB).take 136:=by simp [toI]
 have:=gw_dec_any (w0:=w0) (D:=D) (A:=A) (c:=c) (L:=gB.take 136) (fun w _ ha=>⟨by
  rw [et];exact elems_take ((h w ha).elems (S':=Lt w.heap.size) (keeps_int _) (by decide) (fun _ h=>h.elim) (fun _ _ h=>h)) _,by
  have:=(h w ha).cap.1
  have e:(gB.take 136).length=136:=by decide +kernel
  omega⟩) (by decide +kernel) (show decV (gB.take 136)=(zst,2) by decide +kernel)
 rw [show (toI (gB.take 136)).length=136 by decide +kernel] at this
 exact this
theorem gw_size (hs:∀ w,Below w0.heap.size w0 w→All D w→InS w (Lt w.heap.size) v gS):Gives Tryz.prog w0 D 12 #[.agg (stc v gS)] (.int .i64 76):=fun w hw ha=>by
 have h:=l_Size v gS w (hs w hw ha)
 rw [show sizeV gS=76 by decide +kernel] at h
 exact h
theorem gw_same {s t:St} {b:Bool} (hs:∀ w,Below w0.heap.size w0 w→All D w→InS w (Lt w.heap.size) v s) (ht:∀ w,Below w0.heap.size w0 w→All D w→InS w (Lt w.heap.size) u t) (hb:decide (s=t)=b):Gives Tryz.prog w0 D 17 #[.agg (stc v s),.agg (stc u t)] (.bool b):=fun w hw ha=>by
 have h:=l_Same v s u t w (hs w hw ha) (ht w hw ha)
 rw [hb] at h
 exact h
theorem gw_cut {A:Option Addr} {c:Nat} {t:TypeId} (ht:Tryz.prog.underlying t=some (.slice 5)) (h:∀ w,All D w→OwnElems (rdInt .u8) 1 w 0 5 (fun _=>False) A 137 c (toI gB)) :
  Yields0 Tryz.prog w0 D (Instr.sliceAt t (.slice A 137 c) none (some (.int .i64 136)) none) (.slice A 136 c):=fun w hw ha =>
 slice_upto (k:=136) ht row.info_u8 (by have:=(h w ha).cap.1;omega) w
end
theorem awake13   (w:World):Calls Tryz.prog 8 #[] w fun e w'=>e = .returned (.bool true)∧Below w.heap.size w w' :=
 calls_by (fn:=Tryz.f8) (r:=.bool true) (t:=.cm (Dat (fun w S v=>InS w S v gS) (fun _=>False) w) (fun x=>.tuple #[.agg (stc x.1.2.2 gS),.int .i64 0]) (fun x=>[poolF x.1.1 x.1.2.1]) (fun x1=>.cm (Dat (fun w S v=>InS w S v gT) x1.1.2.1 x1.1.1) (fun x=>.tuple #[.agg (stc x.1.2.2 gT),.int .i64 0]) (fun x=>[poolF x.1.1 x.1.2.1]) (fun x2=>.cm (Option Addr × Nat) (fun x=>.tuple #[.slice x.1 137 x.2,.int .i64 0]) (fun x=>[ownF (rdInt .u8) 1 5 x.1 137 x.2 (toI gB)]) (fun x3=>.cm (Sv) (fun x=>.tuple #[.agg (stc x gT),.int .i64 0]) (fun x=>(rw4 x gT)) (fun x4=>.k (.x (.slice x3.1 136 x3.2) (.cm (Sv) (fun x=>.tuple #[.agg (stc x zst),.int .i64 2]) (fun x=>(rw4 x zst)) (fun x5=>.k (.k (.k (.k (.k (.k (.k (.k (.k (.k (.q (blkA x3.1) (offA x3.1+0 * 1) #[.int .u8 ((toI gB).getD 0 0)] (.s (.k (.q (blkA x3.1) (offA x3.1+7 * 1) #[.int .u8 ((toI gB).getD 7 0)] (.s (.k (.c (.int .i64 76) (.k (.k (.c (.bool true) (.k (.c (.bool false) .z))))))) (.k (.k (.k .z)))))) (.k (.k (.k (.k .z))))))))))))))))))))))) (X :=
 let k0:=(toI gB).getD 0 0;let k1:=(toI gB).getD 7 0;let k2:=(.bool false:Value) = .bool true;GivesM Tryz.prog w [] 20 #[.int .i64 1,.int .i64 1,.agg (cell.xc gL),.int .i64 99] (Dat (fun w S v=>InS w S v gS) (fun _=>False) w) (fun x=>.tuple #[.agg (stc x.1.2.2 gS),.int .i64 0]) (fun x=>[poolF x.1.1 x.1.2.1])∧∀ x1:Dat (fun w S v=>InS w S v gS) (fun _=>False) w,let k3:=stc x1.1.2.2 gS;  ∀ g0:Nat,GivesM Tryz.prog w [poolF x1.1.1 x1.1.2.1] 19 #[.agg k3,.agg (rec.rc gR)] (Dat (fun w S v=>InS w S v gT) x1.1.2.1 x1.1.1) (fun x=>.tuple #[.agg (stc x.1.2.2 gT),.int .i64 0]) (fun x=>[poolF x.1.1 x.1.2.1])∧∀ x2:Dat (fun w S v=>InS w S v gT) x1.1.2.1 x1.1.1,let k4:=stc x2.1.2.2 gT;  ∀ g1:Nat,GivesM Tryz.prog w [poolF x2.1.1 x2.1.2.1,poolF x1.1.1 x1.1.2.1] 10 #[.agg k4] (Option Addr × Nat) (fun x=>.tuple #[.slice x.1 137 x.2,.int .i64 0]) (fun x=>[ownF (rdInt .u8) 1 5 x.1 137 x.2 (toI gB)])∧∀ x3:Option Addr × Nat,let k5:Value:=.slice x3.1 137 x3.2;GivesM Tryz.prog w [ownF (rdInt .u8) 1 5 x3.1 137 x3.2 (toI gB),poolF x2.1.1 x2.1.2.1,poolF x1.1.1 x1.1.2.1] 14 #[.slice x3.1 137 x3.2] (Sv) (fun x=>.tuple #[.agg (stc x gT),.int .i64 0]) (fun x=>(rw4 x gT))∧∀ x4:Sv,∀ g2:Nat,Yields0 Tryz.prog w [oO x4.A1 gT.os.length x4.c1 gT.os,oC x4.A2 gT.cs.length x4.c2 gT.cs,oX x4.A3 gT.ls.length x4.c3 gT.ls,oI x4.A4 gT.ps.length x4.c4 gT.ps,ownF (rdInt .u8) 1 5 x3.1 137 x3.2 (toI gB),poolF x2.1.1 x2.1.2.1,poolF x1.1.1 x1.1.2.1] (Instr.sliceAt 28 k5 none (some (.int .i64 136)) none) (.slice x3.1 136 x3.2)∧GivesM Tryz.prog w [oO x4.A1 gT.os.length x4.c1 gT.os,oC x4.A2 gT.cs.length x4.c2 gT.cs,oX x4.A3 gT.ls.length x4.c3 gT.ls,oI x4.A4 gT.ps.length x4.c4 gT.ps,ownF (rdInt .u8) 1 5 x3.1 137 x3.2 (toI gB),poolF x2.1.1 x2.1.2.1,poolF x1.1.1 x1.1.2.1] 14 #[.slice x3.1 136 x3.2] (Sv) (fun x=>.tuple #[.agg (stc x zst),.int .i64 2]) (fun x=>(rw4 x zst))∧∀ x5:Sv,∀ g3:Nat,Yields0 Tryz.prog w [oO x5.A1 zst.os.length x5.c1 zst.os,oC x5.A2 zst.cs.length x5.c2 zst.cs,oX x5.A3 zst.ls.length x5.c3 zst.ls,oI x5.A4 zst.ps.length x5.c4 zst.ps,oO x4.A1 gT.os.length x4.c1 gT.os,oC x4.A2 gT.cs.length x4.c2 gT.cs,oX x4.A3 gT.ls.length x4.c3 gT.ls,oI x4.A4 gT.ps.length x4.c4 gT.ps,ownF (rdInt .u8) 1 5 x3.1 137 x3.2 (toI gB),poolF x2.1.1 x2.1.2.1,poolF x1.1.1 x1.1.2.1] (Instr.indexAt 28 k5 (.int .i64 0)) (.pointer (some ⟨blkA x3.1,offA x3.1+0 * 1,none⟩))∧Reads0 w [oO x5.A1 zst.os.length x5.c1 zst.os,oC x5.A2 zst.cs.length x5.c2 zst.cs,oX x5.A3 zst.ls.length x5.c3 zst.ls,oI x5.A4 zst.ps.length x5.c4 zst.ps,oO x4.A1 gT.os.length x4.c1 gT.os,oC x4.A2 gT.cs.length x4.c2 gT.cs,oX x4.A3 gT.ls.length x4.c3 gT.ls,oI x4.A4 gT.ps.length x4.c4 gT.ps,ownF (rdInt .u8) 1 5 x3.1 137 x3.2 (toI gB),poolF x2.1.1 x2.1.2.1,poolF x1.1.1 x1.1.2.1] (blkA x3.1) (offA x3.1+0 * 1) #[.int .u8 k0]∧((decide (k0=115))=true→Yields0 Tryz.prog w [oO x5.A1 zst.os.length x5.c1 zst.os,oC x5.A2 zst.cs.length x5.c2 zst.cs,oX x5.A3 zst.ls.length x5.c3 zst.ls,oI x5.A4 zst.ps.length x5.c4 zst.ps,oO x4.A1 gT.os.length x4.c1 gT.os,oC x4.A2 gT.cs.length x4.c2 gT.cs,oX x4.A3 gT.ls.length x4.c3 gT.ls,oI x4.A4 gT.ps.length x4.c4 gT.ps,ownF (rdInt .u8) 1 5 x3.1 137 x3.2 (toI gB),poolF x2.1.1 x2.1.2.1,poolF x1.1.1 x1.1.2.1] (Instr.indexAt 28 k5 (.int .i64 7)) (.pointer (some ⟨blkA x3.1,offA x3.1+7 * 1,none⟩))∧Reads0 w [oO x5.A1 zst.os.length x5.c1 zst.os,oC x5.A2 zst.cs.length x5.c2 zst.cs,oX x5.A3 zst.ls.length x5.c3 zst.ls,oI x5.A4 zst.ps.length x5.c4 zst.ps,oO x4.A1 gT.os.length x4.c1 gT.os,oC x4.A2 gT.cs.length x4.c2 gT.cs,oX x4.A3 gT.ls.length x4.c3 gT.ls,oI x4.A4 gT.ps.length x4.c4 gT.ps,ownF (rdInt .u8) 1 5 x3.1 137 x3.2 (toI gB),poolF x2.1.1 x2.1.2.1,poolF x1.1.1 x1.1.2.1] (blkA x3.1) (offA x3.1+7 * 1) #[.int .u8 k1]∧((decide (k1=1))=true→Gives Tryz.prog w [oO x5.A1 zst.os.length x5.c1 zst.os,oC x5.A2 zst.cs.length x5.c2 zst.cs,oX x5.A3 zst.ls.length x5.c3 zst.ls,oI x5.A4 zst.ps.length x5.c4 zst.ps,oO x4.A1 gT.os.length x4.c1 gT.os,oC x4.A2 gT.cs.length x4.c2 gT.cs,oX x4.A3 gT.ls.length x4.c3 gT.ls,oI x4.A4 gT.ps.length x4.c4 gT.ps,ownF (rdInt .u8) 1 5 x3.1 137 x3.2 (toI gB),poolF x2.1.1 x2.1.2.1,poolF x1.1.1 x1.1.2.1] 12 #[.agg k3] (.int .i64 76)∧Gives Tryz.prog w [oO x5.A1 zst.os.length x5.c1 zst.os,oC x5.A2 zst.cs.length x5.c2 zst.cs,oX x5.A3 zst.ls.length x5.c3 zst.ls,oI x5.A4 zst.ps.length x5.c4 zst.ps,oO x4.A1 gT.os.length x4.c1 gT.os,oC x4.A2 gT.cs.length x4.c2 gT.cs,oX x4.A3 gT.ls.length x4.c3 gT.ls,oI x4.A4 gT.ps.length x4.c4 gT.ps,ownF (rdInt .u8) 1 5 x3.1 137 x3.2 (toI gB),poolF x2.1.1 x2.1.2.1,poolF x1.1.1 x1.1.2.1] 17 #[.agg k4,.agg (stc x4 gT)] (.bool true)∧Gives Tryz.prog w [oO x5.A1 zst.os.length x5.c1 zst.os,oC x5.A2 zst.cs.length x5.c2 zst.cs,oX x5.A3 zst.ls.length x5.c3 zst.ls,oI x5.A4 zst.ps.length x5.c4 zst.ps,oO x4.A1 gT.os.length x4.c1 gT.os,oC x4.A2 gT.cs.length x4.c2 gT.cs,oX x4.A3 gT.ls.length x4.c3 gT.ls,oI x4.A4 gT.ps.length x4.c4 gT.ps,ownF (rdInt .u8) 1 5 x3.1 137 x3.2 (toI gB),poolF x2.1.1 x2.1.2.1,poolF x1.1.1 x1.1.2.1] 17 #[.agg k3,.agg k4] (.bool false)∧((.bool true:Value) = .bool true))∧((decide (k1=1))=false→k2))∧((decide (k0=115))=false→k2)) Tryz.func8 (by kernel_rfl)
 (⟨gw_new (fixed_low (fun k hk=>hk.elim)),fun x1=>fun g0=>⟨gw_do (fixed_pool2 x1 (i:=0) rfl) (gw_low x1 (i:=0) rfl),fun x2=>fun g1=>⟨(gw_enc (dat_lt x2 (fixed_pool2 x1 (i:=1) rfl) (i:=0) rfl)),fun x3=>⟨(gw_dec (row_at (j:=0) rfl)),fun x4=>fun g2=>⟨(gw_cut Tryz.underlying28 (row_at (j:=4) rfl)),⟨(gw_dec2 (row_at (j:=4) rfl)),fun x5=>fun g3=>⟨(own_index Tryz.underlying28 info_u8 (row_at (j:=8) rfl) (by decide)),(own_reads (keeps_int _) (by decide) byte_cells (row_at (j:=8) rfl) (at_getD (by decide))),⟨fun h6=>have h6:((toI gB).getD 0 0)=115:=(by simpa using h6)
⟨(own_index Tryz.underlying28 info_u8 (row_at (j:=8) rfl) (by decide)),(own_reads (keeps_int _) (by decide) byte_cells (row_at (j:=8) rfl) (at_getD (by decide))),⟨fun h7=>have h7:((toI gB).getD 7 0)=1:=(by simpa using h7)
⟨(gw_size (dat_lt x1 (fixed_low (fun k hk=>hk.elim)) (i:=10) rfl)),⟨(gw_same (dat_lt x2 (fixed_pool2 x1 (i:=10) rfl) (i:=9) rfl) (fun w2 _ ha=>rows_in (row_at (j:=4) rfl w2 ha) (row_at (j:=5) rfl w2 ha) (row_at (j:=6) rfl w2 ha) (row_at (j:=7) rfl w2 ha) gT_fine) (by decide +kernel)),⟨(gw_same (dat_lt x1 (fixed_low (fun k hk=>hk.elim)) (i:=10) rfl) (dat_lt x2 (fixed_pool2 x1 (i:=10) rfl) (i:=9) rfl) (by decide +kernel)),rfl⟩⟩⟩,
 fun h7=>have h7:¬ ((toI gB).getD 7 0)=1:=(by simpa using h7)
(absurd (show ((toI gB).getD 7 0)=1 by decide +kernel) h7)⟩⟩,
 fun h6=>have h6:¬ ((toI gB).getD 0 0)=115:=(by simpa using h6)
(absurd (show ((toI gB).getD 0 0)=115 by decide +kernel) h6)⟩⟩⟩⟩⟩⟩⟩⟩)
end Go.Proofs.YtbbjlfbemibfcaaGreat.book
