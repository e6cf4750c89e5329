/-
  BookI7, BookJm
-/
import Derived.Test.YtbbjlfbemibfcaaGreatMrt17
import Derived.Test.YtbbjlfbemibfcaaGreatMrt38
set_option linter.unusedVariables false
set_option linter.unusedSimpArgs false
section
namespace Go.Proofs.YtbbjlfbemibfcaaGreat.book
open Go.RowKit Go.Proofs.YtbbjlfbemibfcaaGreat
open Go.Proofs.YtbbjlfbemibfcaaGreat.order (Or open_ worth)
open Go.Proofs.YtbbjlfbemibfcaaGreat.cell (Ce Ex)
open Go.Proofs.YtbbjlfbemibfcaaGreat.rec (Rc)
set_option maxRecDepth 20000
open Go.Proofs.YtbbjlfbemibfcaaGreat.order (oz)
structure Fines (s:St):Prop where
 o:∀ o ∈ s.os,o.fine
 c:∀ c ∈ s.cs,c.fine
 n:frame.inR s.a∧frame.inR s.y∧frame.inR s.last∧frame.inR s.seq∧frame.inR s.lsn
theorem stc_set (v:Sv) (s:St) (i:Nat) (c:Ce):stc v { s with cs:=s.cs.set i c }=stc v s:=by unfold stc;simp only [List.length_set]
theorem lens_set {s:St} {i:Nat} {c:Ce} (h:Lens s):Lens { s with cs:=s.cs.set i c }:=⟨h.1,by show ((s.cs.set i c).length:Int)=_;rw [List.length_set];exact h.2.1,h.2.2.1,h.2.2.2⟩
theorem there_pl2 {s:St} {a b:Int} (hL:Lens s) (ht:There s a b):place s.y a b < s.ls.length∧a.toNat < s.ps.length:=by
 have h:=there_pl hL ht
 have h1:=hL.2
 obtain ⟨g1,g2,_⟩:=ht
 omega
def growV (s:St) (o:Or) (c:Ce):Int :=
 if (weighV { s with cs:=s.cs.set (place s.y o.a o.y) c } o).2.2=0 then (if limit.against (weighV s o).1 (weighV { s with cs:=s.cs.set (place s.y o.a o.y) c } o).1 (s.ls.getD (place s.y o.a o.y) xz)=true∨limit.cap (weighV s o).2.1 (weighV { s with cs:=s.cs.set (place s.y o.a o.y) c } o).2.1 (s.ps.getD o.a.toNat 0)=true then 4 else 0)
 else (weighV { s with cs:=s.cs.set (place s.y o.a o.y) c } o).2.2
section
variable {s:St} {o:Or} {c:Ce}
theorem grow_1 (h:¬ (weighV { s with cs:=s.cs.set (place s.y o.a o.y) c } o).2.2=0):growV s o c=(weighV { s with cs:=s.cs.set (place s.y o.a o.y) c } o).2.2:=if_neg h
theorem grow_2 (h:(weighV { s with cs:=s.cs.set (place s.y o.a o.y) c } o).2.2=0) (h2:limit.against (weighV s o).1 (weighV { s with cs:=s.cs.set (place s.y o.a o.y) c } o).1 (s.ls.getD (place s.y o.a o.y) xz)=true∨limit.cap (weighV s o).2.1 (weighV { s with cs:=s.cs.set (place s.y o.a o.y) c } o).2.1 (s.ps.getD o.a.toNat 0)=true):growV s o c=4:=by unfold growV;rw [if_pos h,if_pos h2]
theorem grow_3 (h:(weighV { s with cs:=s.cs.set (place s.y o.a o.y) c } o).2.2=0) (h2:limit.against (weighV s o).1 (weighV { s with cs:=s.cs.set (place s.y o.a o.y) c } o).1 (s.ls.getD (place s.y o.a o.y) xz)=false) (h3:limit.cap (weighV s o).2.1 (weighV { s with cs:=s.cs.set (place s.y o.a o.y) c } o).2.1 (s.ps.getD o.a.toNat 0)=false):growV s o c=0:=by unfold growV;rw [if_pos h,if_neg (by rw [h2,h3];simp)]
end
theorem lgrow (v:Sv) (s:St) (o:Or) (c:Ce) (g:Nat) (hL:Lens s) (ht:There s o.a o.y) (hF:Fines s) (hof:o.fine) (hcf:c.fine) (hw0:(weighV s o).2.2=0) (w:World):GivesD Tryz.prog w (cellsF g (stc v s) 79 :: [ownF rdOrder 12 54 v.A1 s.os.length v.c1 s.os,ownF rdCell 4 60 v.A2 s.cs.length v.c2 s.cs,ownF rdExpo 3 51 v.A3 s.ls.length v.c3 s.ls,ownF (rdInt .i64) 1 2 v.A4 s.ps.length v.c4 s.ps]) 102 #[.pointer (some ⟨g,0,none⟩),.agg (order.oc o),.agg (cell.cc c)] (Unit) (fun x=>.int .i64 (growV s o c)) (fun x=>cellsF g (stc v s) 79 :: [ownF rdOrder 12 54 v.A1 s.os.length v.c1 s.os,ownF rdCell 4 60 v.A2 s.cs.length v.c2 (s.cs.set (place s.y o.a o.y) c),ownF rdExpo 3 51 v.A3 s.ls.length v.c3 s.ls,ownF (rdInt .i64) 1 2 v.A4 s.ps.length v.c4 s.ps]) :=
 have hpl:=there_pl hL ht
 have hpl2:=there_pl2 hL ht
 gives_d (fn:=Tryz.f102) (r:=fun (x:Unit)=>.int .i64 (growV s o c)) (cs:=fun (x:Unit)=>(stc v s)) (fs:=fun (x:Unit)=>[ownF rdOrder 12 54 v.A1 s.os.length v.c1 s.os,ownF rdCell 4 60 v.A2 s.cs.length v.c2 (s.cs.set (place s.y o.a o.y) c),ownF rdExpo 3 51 v.A3 s.ls.length v.c3 s.ls,ownF (rdInt .i64) 1 2 v.A4 s.ps.length v.c4 s.ps]) (t:=fun fr=>let k0:=place s.y o.a o.y;let k1:=s.cs.set k0 c;let k2:=s.ps.getD o.a.toNat 0; .cB 0 (.tuple #[.agg (cell.xc ((weighV s o).1)),.int .i64 ((weighV s o).2.1),.int .i64 ((weighV s o).2.2)]) (.m false (.cB 0 (.int .i64 (placeV s o.a o.y)) (.ow [] [oO v.A1 s.os.length v.c1 s.os,shapeF rdCell 4 60 v.A2 s.cs.length v.c2,oX v.A3 s.ls.length v.c3 s.ls,oI v.A4 s.ps.length v.c4 s.ps,fr] (.x (.pointer (some ⟨blkA v.A2,offA v.A2+k0 * 4,none⟩)) (.w (Unit) (some 1) (fun x=>undef) (fun x=>[oC v.A2 s.cs.length v.c2 k1]) (fun x1=>.cB 0 (.tuple #[.agg (cell.xc ((weighV ({ s with cs:=k1 }) o).1)),.int .i64 ((weighV ({ s with cs:=k1 }) o).2.1),.int .i64 ((weighV ({ s with cs:=k1 }) o).2.2)]) (.s .z (.o [] (.q (blkA v.A3) (offA v.A3+k0 * 3) (cell.xc (s.ls.getD k0 xz)) (.cs (limit.against ((weighV s o).1) ((weighV ({ s with cs:=k1 }) o).1) (s.ls.getD k0 xz)) (.k .z) (.k (.q (blkA v.A4) (offA v.A4+o.a.toNat * 1) #[.int .i64 k2] (.cs (limit.cap ((weighV s o).2.1) ((weighV ({ s with cs:=k1 }) o).2.1) k2) .z .z)))))))))))))) (X:=fun fr=>let k3:=place s.y o.a o.y;let k0:=s.cs.set k3 c;let k1:=[oO v.A1 s.os.length v.c1 s.os,oC v.A2 s.cs.length v.c2 k0,oX v.A3 s.ls.length v.c3 s.ls,oI v.A4 s.ps.length v.c4 s.ps]++[fr];let k2:=[oO v.A1 s.os.length v.c1 s.os,oC v.A2 s.cs.length v.c2 s.cs,oX v.A3 s.ls.length v.c3 s.ls,oI v.A4 s.ps.length v.c4 s.ps,fr]++[cellsF g (stc v s) 79];let k4:=(some ⟨g,0,(stc v s),.own 79⟩:Option Blk);let k5:Array Value:=#[.pointer (some ⟨g,0,none⟩),.agg (order.oc o)];let k6:=s.ps.getD o.a.toNat 0;let k7:=(weighV s o).2.1;let k8:=s.ls.getD k3 xz;let k9:=(weighV s o).1;let k10:Value:=.pointer (some ⟨blkA v.A2,offA v.A2+k3 * 4,none⟩);let k11:Value:=.int .i64 (placeV s o.a o.y); ∀ g1:Nat,∀ g2:Nat,Gives Tryz.prog w k2 124 k5 (.tuple #[.agg (cell.xc k9),.int .i64 k7,.int .i64 ((weighV s o).2.2)])∧∀ g3:Nat,(!decide (((weighV s o).2.2)=0))=false∧Gives Tryz.prog w k2 101 k5 k11∧Imp w [oO v.A1 s.os.length v.c1 s.os,oC v.A2 s.cs.length v.c2 s.cs,oX v.A3 s.ls.length v.c3 s.ls,oI v.A4 s.ps.length v.c4 s.ps,fr] [oO v.A1 s.os.length v.c1 s.os,shapeF rdCell 4 60 v.A2 s.cs.length v.c2,oX v.A3 s.ls.length v.c3 s.ls,oI v.A4 s.ps.length v.c4 s.ps,fr]∧Yields0 Tryz.prog w [oO v.A1 s.os.length v.c1 s.os,shapeF rdCell 4 60 v.A2 s.cs.length v.c2,oX v.A3 s.ls.length v.c3 s.ls,oI v.A4 s.ps.length v.c4 s.ps,fr] (Instr.indexAt 23 (.slice v.A2 s.cs.length v.c2) k11) k10∧(∀ x:Unit,Imp w [oC v.A2 s.cs.length v.c2 k0,oO v.A1 s.os.length v.c1 s.os,oX v.A3 s.ls.length v.c3 s.ls,oI v.A4 s.ps.length v.c4 s.ps,fr] [oO v.A1 s.os.length v.c1 s.os,shapeF rdCell 4 60 v.A2 s.cs.length v.c2,oX v.A3 s.ls.length v.c3 s.ls,oI v.A4 s.ps.length v.c4 s.ps,fr])∧StepU Tryz.prog w [oO v.A1 s.os.length v.c1 s.os,oC v.A2 s.cs.length v.c2 s.cs,oX v.A3 s.ls.length v.c3 s.ls,oI v.A4 s.ps.length v.c4 s.ps,fr] (Instr.storeAt 60 k10 (.agg (cell.cc c))) ((oC v.A2 s.cs.length v.c2 s.cs).S) (Unit) (fun x=>undef) (fun x=>[oC v.A2 s.cs.length v.c2 k0])∧∀ x1:Unit,Gives Tryz.prog w ([oC v.A2 s.cs.length v.c2 k0,oO v.A1 s.os.length v.c1 s.os,oX v.A3 s.ls.length v.c3 s.ls,oI v.A4 s.ps.length v.c4 s.ps,fr]++[cellsF g (stc v s) 79]) 124 k5 (.tuple #[.agg (cell.xc ((weighV ({ s with cs:=k0 }) o).1)),.int .i64 ((weighV ({ s with cs:=k0 }) o).2.1),.int .i64 ((weighV ({ s with cs:=k0 }) o).2.2)])∧∀ g4:Nat,((!decide (((weighV ({ s with cs:=k0 }) o).2.2)=0))=true→∃ x:Unit,(.int .i64 ((weighV ({ s with cs:=k0 }) o).2.2):Value) = .int .i64 (growV s o c)∧k4=some ⟨g,0,(stc v s),.own 79⟩∧Turns w [oC v.A2 s.cs.length v.c2 k0,oO v.A1 s.os.length v.c1 s.os,oX v.A3 s.ls.length v.c3 s.ls,oI v.A4 s.ps.length v.c4 s.ps,fr] k1)∧((!decide (((weighV ({ s with cs:=k0 }) o).2.2)=0))=false→Yields0 Tryz.prog w [oC v.A2 s.cs.length v.c2 k0,oO v.A1 s.os.length v.c1 s.os,oX v.A3 s.ls.length v.c3 s.ls,oI v.A4 s.ps.length v.c4 s.ps,fr] (Instr.indexAt 24 (.slice v.A3 s.ls.length v.c3) k11) (.pointer (some ⟨blkA v.A3,offA v.A3+k3 * 3,none⟩))∧Reads0 w [oC v.A2 s.cs.length v.c2 k0,oO v.A1 s.os.length v.c1 s.os,oX v.A3 s.ls.length v.c3 s.ls,oI v.A4 s.ps.length v.c4 s.ps,fr] (blkA v.A3) (offA v.A3+k3 * 3) (cell.xc k8)∧Gives Tryz.prog w [oC v.A2 s.cs.length v.c2 k0,oO v.A1 s.os.length v.c1 s.os,oX v.A3 s.ls.length v.c3 s.ls,oI v.A4 s.ps.length v.c4 s.ps,fr] 125 #[.agg (cell.xc k9),.agg (cell.xc ((weighV ({ s with cs:=k0 }) o).1)),.agg (cell.xc k8)] (.bool (limit.against k9 ((weighV ({ s with cs:=k0 }) o).1) k8))∧((limit.against k9 ((weighV ({ s with cs:=k0 }) o).1) k8)=true→∃ x:Unit,(.int .i64 4:Value) = .int .i64 (growV s o c)∧k4=some ⟨g,0,(stc v s),.own 79⟩∧Turns w [oC v.A2 s.cs.length v.c2 k0,oO v.A1 s.os.length v.c1 s.os,oX v.A3 s.ls.length v.c3 s.ls,oI v.A4 s.ps.length v.c4 s.ps,fr] k1)∧((limit.against k9 ((weighV ({ s with cs:=k0 }) o).1) k8)=false→Yields0 Tryz.prog w [oC v.A2 s.cs.length v.c2 k0,oO v.A1 s.os.length v.c1 s.os,oX v.A3 s.ls.length v.c3 s.ls,oI v.A4 s.ps.length v.c4 s.ps,fr] (Instr.indexAt 25 (.slice v.A4 s.ps.length v.c4) (.int .i64 o.a)) (.pointer (some ⟨blkA v.A4,offA v.A4+o.a.toNat * 1,none⟩))∧Reads0 w [oC v.A2 s.cs.length v.c2 k0,oO v.A1 s.os.length v.c1 s.os,oX v.A3 s.ls.length v.c3 s.ls,oI v.A4 s.ps.length v.c4 s.ps,fr] (blkA v.A4) (offA v.A4+o.a.toNat * 1) #[.int .i64 k6]∧Gives Tryz.prog w [oC v.A2 s.cs.length v.c2 k0,oO v.A1 s.os.length v.c1 s.os,oX v.A3 s.ls.length v.c3 s.ls,oI v.A4 s.ps.length v.c4 s.ps,fr] 126 #[.int .i64 k7,.int .i64 ((weighV ({ s with cs:=k0 }) o).2.1),.int .i64 k6] (.bool (limit.cap k7 ((weighV ({ s with cs:=k0 }) o).2.1) k6))∧((limit.cap k7 ((weighV ({ s with cs:=k0 }) o).2.1) k6)=true→∃ x:Unit,(.int .i64 4:Value) = .int .i64 (growV s o c)∧k4=some ⟨g,0,(stc v s),.own 79⟩∧Turns w [oC v.A2 s.cs.length v.c2 k0,oO v.A1 s.os.length v.c1 s.os,oX v.A3 s.ls.length v.c3 s.ls,oI v.A4 s.ps.length v.c4 s.ps,fr] k1)∧((limit.cap k7 ((weighV ({ s with cs:=k0 }) o).2.1) k6)=false→∃ x:Unit,(.int .i64 0:Value) = .int .i64 (growV s o c)∧k4=some ⟨g,0,(stc v s),.own 79⟩∧Turns w [oC v.A2 s.cs.length v.c2 k0,oO v.A1 s.os.length v.c1 s.os,oX v.A3 s.ls.length v.c3 s.ls,oI v.A4 s.ps.length v.c4 s.ps,fr] k1)))) Tryz.func102 rfl (fun fr=>by kernel_rfl)
 (fun fr=>fun g1=>fun g2=>⟨(fun w2 hw ha=>lweigh v s o g w2 (reads_block (block_at (j:=5) rfl w2 ha)) (rows_in (row_at (j:=0) rfl w2 ha) (row_at (j:=1) rfl w2 ha) (row_at (j:=2) rfl w2 ha) (row_at (j:=3) rfl w2 ha) hF.n) hL ht),fun g3=>⟨by simp only [dq];omega,⟨(fun w2 hw ha=>lat v s o g w2 (reads_block (block_at (j:=5) rfl w2 ha))),⟨fun w _ ha=>⟨ha.1,⟨_,ha.2.1⟩,ha.2.2.1,ha.2.2.2.1,ha.2.2.2.2.1,trivial⟩,⟨(index_at hpl.1 (shape_index Tryz.underlying23 info_cell (i:=1) rfl hpl.2)),⟨fun x w _ ha=>⟨ha.2.1,⟨_,ha.1⟩,ha.2.2.1,ha.2.2.2.1,ha.2.2.2.2.1,trivial⟩,(store_agg keeps_cell leaf_cell info_cell (row_at (j:=1) rfl) hpl.2 rfl (fun _=>⟨rfl,hcf⟩)),fun x1=>⟨(fun w2 hw ha=>by have:=lweigh v ({ s with cs:=(s.cs.set (place s.y o.a o.y) c) }) o g w2 (by rw [stc_set];exact reads_block (block_at (j:=5) rfl w2 ha)) (rows_in (row_at (j:=1) rfl w2 ha) (by rw [show (({ s with cs:=(s.cs.set (place s.y o.a o.y) c) } : St).cs.length)=s.cs.length from List.length_set];exact (row_at (j:=0) rfl w2 ha)) (row_at (j:=2) rfl w2 ha) (row_at (j:=3) rfl w2 ha) hF.n) (lens_set hL) ht;exact this),fun g4=>⟨fun h2=>have h2:¬ ((weighV ({ s with cs:=(s.cs.set (place s.y o.a o.y) c) }) o).2.2)=0:=(by simpa using h2)
⟨(),by rw [grow_1 h2],rfl,(turns_idx [1,0,2,3,4] (by decide) rfl)⟩,
 fun h2=>have h2:((weighV ({ s with cs:=(s.cs.set (place s.y o.a o.y) c) }) o).2.2)=0:=(by simpa using h2)
⟨(index_at hpl.1 (own_index Tryz.underlying24 info_expo (row_at (j:=2) rfl) hpl2.1)),(own_reads keeps_expo (by decide) expo_cells (row_at (j:=2) rfl) (at_getD (by exact hpl2.1))),⟨l_against,fun h3=>⟨(),by rw [grow_2 h2 (.inl h3)],rfl,(turns_idx [1,0,2,3,4] (by decide) rfl)⟩,
 fun h3=>⟨(index_at (Int.toNat_of_nonneg ht.1).symm (own_index Tryz.underlying25 info_i64 (row_at (j:=3) rfl) hpl2.2)),(own_reads (keeps_int _) (by decide) int_cells (row_at (j:=3) rfl) (at_getD (by exact hpl2.2))),⟨l_cap,fun h4=>⟨(),by rw [grow_2 h2 (.inr h4)],rfl,(turns_idx [1,0,2,3,4] (by decide) rfl)⟩,
 fun h4=>⟨(),by rw [grow_3 h2 h3 h4],rfl,(turns_idx [1,0,2,3,4] (by decide) rfl)⟩⟩⟩⟩⟩⟩⟩⟩⟩⟩⟩⟩⟩)
end Go.Proofs.YtbbjlfbemibfcaaGreat.book
end
section
namespace Go.Proofs.YtbbjlfbemibfcaaGreat.book
set_option maxRecDepth 20000
open Go.RowKit Go.Proofs.YtbbjlfbemibfcaaGreat
open Go.Proofs.YtbbjlfbemibfcaaGreat.order (Or Nt open_ worth oz)
open Go.Proofs.YtbbjlfbemibfcaaGreat.cell (Ce Ex)
open Go.Proofs.YtbbjlfbemibfcaaGreat.rec (Rc)
def bs (s:St) (r:Rc):St:={ s with os:=s.os++[(order.begin_ r).1],last:=(order.begin_ r).1.i }
def sz (s:St) (r:Rc):St:={ s with seq:=r.z }
theorem stc_seto (v:Sv) (s:St) (i:Nat) (o:Or):stc v { s with os:=s.os.set i o }=stc v s:=by unfold stc;simp only [List.length_set]
theorem findI_nn (os:List Or) (id:Int):findI os id = -1∨0≤findI os id:=by unfold findI;split<;>omega
theorem find_nn {os:List Or} {id:Int} (h:¬ findI os id = -1):¬ findI os id < 0:=by have:=findI_nn os id;omega
theorem find_neg {os:List Or} {id:Int} (h:findI os id = -1):findI os id < 0:=by omega
section
variable {s:St} {r:Rc}
theorem begin_e (hk:r.k=1) (hr:rec.right r=true):(order.begin_ r).2=0:=by unfold order.begin_;rw [if_pos ⟨hk,hr⟩]
theorem begin_there (hk:r.k=1) (hr:rec.right r=true) (hra:r.a < s.a∧r.y < s.y):There s (order.begin_ r).1.a (order.begin_ r).1.y:=by
 have h:=begin_is hk hr
 have h1:=h.1.1
 exact ⟨by omega,by rw [h.2.1];exact hra.1,by omega,by rw [h.2.2];exact hra.2⟩
theorem there_of (hs:Rightly s) {k:Nat} (hk:k < s.os.length):There s (s.os.getD k oz).a (s.os.getD k oz).y:=by
 have h:=hs.2.2.2.1.1 _ (getD_mem (z:=oz) hk)
 have h1:=h.1.1
 exact ⟨by omega,h.2.2.1,by omega,h.2.2.2.1⟩
theorem weigh0 (hs:Rightly s) {o:Or} (ht:There s o.a o.y):(weighV s o).2.2=0:=by
 have hp:=there_pl (Lens.of hs) ht
 have hc:=(hs.2.2.2.2.2.2.1.2.1 _ (getD_mem (z:=cz) hp.2)).2
 have h0:(cell.of_ (s.cs.getD (place s.y o.a o.y) cz)).2=0:=by unfold cell.of_;rw [if_pos (cell.right_iff.2 hc)]
 rw [weigh_yes h0]
 exact hs.2.2.2.2.2.2.1.2.2 o.a.toNat (by have:=ht;simp;obtain ⟨g1,g2,_⟩:=ht;omega)
end
end Go.Proofs.YtbbjlfbemibfcaaGreat.book
end
