/-
  SlotQ, Awake14, SlotKeepsW
-/
import Derived.Test.YtlipgnenbdchmaaMsg45
import Derived.Test.YtlipgnenbdchmaaMsg38
set_option linter.unusedVariables false
set_option linter.unusedSimpArgs false
section
namespace Go.Proofs.Ytlipgnenbdchmaa.slot
set_option maxRecDepth 20000
open Go.RowKit Go.Proofs.Ytlipgnenbdchmaa Go.Proofs.Ytlipgnenbdchmaa.disk
section
variable {fs:List FileD} {nm x:ByteArray} {b:List Nat} {keep:List Int}
end
section
variable {d:DiskD} {s was:Sl} {f:Int} {keep:List Int} {r:DiskD × Int} {nm:ByteArray} {b:List Nat}
end
section
variable {fs:List FileD} {nm:ByteArray} {b:List Nat} {keep:List Int}
end
end Go.Proofs.Ytlipgnenbdchmaa.slot
end
section
namespace Go.Proofs.Ytlipgnenbdchmaa.slot
open Go.RowKit Go.Proofs.Ytlipgnenbdchmaa Go.Proofs.Ytlipgnenbdchmaa.disk
open Go.Proofs.Ytlipgnenbdchmaa.wal (Dv dc InD RetD RetB keeps_d rdRaw RawF rfc rz fz keeps_raw leaf_raw raw_cells info_file)
open Go.Proofs.Ytlipgnenbdchmaa.dsk (low_alike RB keeps_bys)
open Go.Proofs.Ytlipgnenbdchmaa.frame (be be_len be_lt u le4 num num_lt seg seg_lt seg_len sg)
set_option maxRecDepth 20000
abbrev s14:Sl:=⟨1,4⟩
abbrev s27:Sl:=⟨2,7⟩
theorem s27_fine:s27.fine:=⟨⟨by decide,by decide⟩,⟨by decide,by decide⟩⟩
def v00:Dv:=⟨none,0,[]⟩
def d00:DiskD:=⟨[],99, -1,false⟩
def da:DiskD:=(writeS d00 s14).1
def db:DiskD:=(writeS da s27).1
theorem wa:writeS d00 s14=(da,0):=Prod.ext rfl (by decide +kernel)
theorem wb:writeS da s27=(db,0):=Prod.ext rfl (by decide +kernel)
theorem ag_db:againstS db s27=8:=by decide +kernel
theorem wc:writeS db s27=(db,8):=by rw [wr_no (by rw [ag_db];decide),ag_db]
theorem ra:readS d00=(sz,7):=by decide +kernel
theorem rb:readS db=(s27,0):=by decide +kernel
theorem db_len:db.files.length=2:=by decide +kernel
theorem d00_short:shortB d00.files=true:=by decide +kernel
theorem da_short:shortB da.files=true:=write_short d00_short
theorem db_short:shortB db.files=true:=write_short da_short
theorem d00_in {w:World} {S:Nat→Prop} : InD w S v00 d00:=nil_d (by unfold inI;omega) (by unfold inI;omega)
theorem g_name3 {w0:World} {D:List Fact} : Gives Try.prog w0 D 14 #[.int .i64 3] (.string nOdd):=g_sname 3
theorem awake14   (w:World):Calls Try.prog 6 #[] w fun e w'=>e = .returned (.bool true)∧Below w.heap.size w w' :=
 calls_by (fn:=Try.f6) (r:=.bool true) (t:=.c (.tuple #[.agg (sc sz),.int .i64 7]) (.cm (Dat (fun w S v=>InD w S v da) (fun _=>False) w) (fun x=>.tuple #[.agg (dc x.1.2.2 da),.int .i64 0]) (fun x=>[poolF x.1.1 x.1.2.1]) (fun x1=>.cm (Dat (fun w S v=>InD w S v db) (Un (fun _=>False) x1.1.2.1) x1.1.1) (fun x=>.tuple #[.agg (dc x.1.2.2 db),.int .i64 0]) (fun x=>[poolF x.1.1 x.1.2.1]) (fun x2=>.cm (Dat (fun w S v=>InD w S v db) (Un (Un (fun _=>False) x1.1.2.1) x2.1.2.1) x2.1.1) (fun x=>.tuple #[.agg (dc x.1.2.2 db),.int .i64 8]) (fun x=>[poolF x.1.1 x.1.2.1]) (fun x3=>.c (.tuple #[.agg (sc s27),.int .i64 0]) (.k (.k (.k (.k (.k (.k (.k (.k (.k (.k (.x (.bool true) (.k (.e (.bool true) (.k (.c (.string nOdd) (.x (.bool true) .z))))))))))))))))))))) (X :=
 let k0:Value:=.string (⟨#[115,108,111,116,46,49]⟩);let k1:Value:=.agg (sc s27); ∀ g0:Nat,Gives Try.prog w [] 16 #[.agg (dc v00 d00)] (.tuple #[.agg (sc sz),.int .i64 7])∧∀ g1:Nat,GivesM Try.prog w [] 18 #[.agg (dc v00 d00),.agg (sc s14)] (Dat (fun w S v=>InD w S v da) (fun _=>False) w) (fun x=>.tuple #[.agg (dc x.1.2.2 da),.int .i64 0]) (fun x=>[poolF x.1.1 x.1.2.1])∧∀ x1:Dat (fun w S v=>InD w S v da) (fun _=>False) w,∀ g2:Nat,GivesM Try.prog w [poolF x1.1.1 x1.1.2.1] 18 #[.agg (dc x1.1.2.2 da),.agg (sc s27)] (Dat (fun w S v=>InD w S v db) (Un (fun _=>False) x1.1.2.1) x1.1.1) (fun x=>.tuple #[.agg (dc x.1.2.2 db),.int .i64 0]) (fun x=>[poolF x.1.1 x.1.2.1])∧∀ x2:Dat (fun w S v=>InD w S v db) (Un (fun _=>False) x1.1.2.1) x1.1.1,∀ g3:Nat,GivesM Try.prog w [poolF x2.1.1 x2.1.2.1,poolF x1.1.1 x1.1.2.1] 18 #[.agg (dc x2.1.2.2 db),.agg (sc s27)] (Dat (fun w S v=>InD w S v db) (Un (Un (fun _=>False) x1.1.2.1) x2.1.2.1) x2.1.1) (fun x=>.tuple #[.agg (dc x.1.2.2 db),.int .i64 8]) (fun x=>[poolF x.1.1 x.1.2.1])∧∀ x3:Dat (fun w S v=>InD w S v db) (Un (Un (fun _=>False) x1.1.2.1) x2.1.2.1) x2.1.1,let k2:List Fact:=[poolF x3.1.1 x3.1.2.1,poolF x2.1.1 x2.1.2.1,poolF x1.1.1 x1.1.2.1];  ∀ g4:Nat,Gives Try.prog w k2 16 #[.agg (dc x2.1.2.2 db)] (.tuple #[.agg (sc s27),.int .i64 0])∧∀ g5:Nat,Yields0 Try.prog w k2 (do eqGuard BinOp.eql 26 (.tmp 60) (.tmp 61) k1 k1;Go.binOp BinOp.eql 26 k1 k1) (.bool true)∧(.bool (decide ((db.files.length:Int)=2)):Value) = .bool true∧Gives Try.prog w k2 14 #[.int .i64 3] (.string nOdd)∧Yields0 Try.prog w k2 (do eqGuard BinOp.eql 9 (.tmp 71) (.const k0) (.string nOdd) k0;Go.binOp BinOp.eql 9 (.string nOdd) k0) (.bool true)∧((.bool true:Value) = .bool true)) Try.func6 (by kernel_rfl)
 (fun g0=>⟨(g_slread (q:=(sz,7)) ra (fun w1 _ _=>d00_in) d00_short),fun g1=>⟨(g_swrite (r:=(da,0)) wa (fixed_low (fun k hk=>hk.elim)) (fun w1 _ _=>d00_in) d00_short),fun x1=>fun g2=>⟨(g_swrite (r:=(db,0)) wb (fixed_next (fixed_low (fun k hk=>hk.elim)) x1 (i:=0) rfl) (fun w1 hw ha=>((dat_in (keeps_d da) (fixed_low (fun k hk=>hk.elim)) x1 (i:=0) rfl w1 hw ha))) da_short),fun x2=>fun g3=>⟨(g_swrite (r:=(db,8)) wc (fixed_next (fixed_next (fixed_low (fun k hk=>hk.elim)) x1 (i:=1) rfl) x2 (i:=0) rfl) (fun w1 hw ha=>((dat_in (keeps_d db) (fixed_next (fixed_low (fun k hk=>hk.elim)) x1 (i:=1) rfl) x2 (i:=0) rfl w1 hw ha))) db_short),fun x3=>fun g4=>⟨(g_slread (q:=(s27,0)) rb (fun w1 hw ha=>(dat_all (keeps_d db) (fixed_next (fixed_low (fun k hk=>hk.elim)) x1 (i:=2) rfl) x2 (i:=1) rfl w1 hw ha)) db_short),fun g5=>⟨(by have:=slot_eql (w0:=w) (D:=[poolF x3.1.1 x3.1.2.1,poolF x2.1.1 x2.1.2.1,poolF x1.1.1 x1.1.2.1]) (a:=s27) (b:=s27) s27_fine s27_fine (.tmp 60) (.tmp 61);rw [decide_eq_true rfl] at this;exact this),⟨(by rw [db_len];rfl),⟨g_name3,⟨(by have:=str_eql (P:=Try.prog) (w0:=w) (D:=[poolF x3.1.1 x3.1.2.1,poolF x2.1.1 x2.1.2.1,poolF x1.1.1 x1.1.2.1]) (T:=9) (a:=nOdd) (b:=nOdd) (.tmp 71) (.const (.string nOdd));rw [decide_eq_true rfl] at this;exact this),rfl⟩⟩⟩⟩⟩⟩⟩⟩⟩)
end Go.Proofs.Ytlipgnenbdchmaa.slot
end
section
namespace Go.Proofs.Ytlipgnenbdchmaa.slot
open Go.RowKit Go.Proofs.Ytlipgnenbdchmaa Go.Proofs.Ytlipgnenbdchmaa.disk
open Go.Proofs.Ytlipgnenbdchmaa.wal (Dv dc InD RetD RetB keeps_d rdRaw RawF rfc rz fz keeps_raw leaf_raw raw_cells info_file)
open Go.Proofs.Ytlipgnenbdchmaa.dsk (low_alike RB keeps_bys)
open Go.Proofs.Ytlipgnenbdchmaa.frame (be be_len be_lt u le4 num num_lt seg seg_lt seg_len sg)
set_option maxRecDepth 20000
section
variable {P:Program} {w0 W:World} {D:List Fact} {S:Nat→Prop} {u u2:Dv} {t t2:DiskD}
theorem bys_str {src e dst:TypeId} {A:Option Addr} {L:List Nat} {c:Nat} (hs:P.underlying src=some (.slice e)) (he:P.underlying e=some (.int .u8)) (hd:P.underlying dst=some .string) (h:∀ w,Below w0.heap.size w0 w→All D w→BysIn w (Lt w.heap.size) A L):Yields0 P w0 D (convert src dst (.slice A L.length c)) (.string (strB L)):=fun w hw ha =>
 run_bys_string (BysIn.bys (h w hw ha) (fun _ h=>h)) rfl src e dst hs he hd
theorem raw_in {w:World} {k:Nat} (h:InD w S u t) (hk:k < t.files.length):rdRaw w S (rfc (u.rs.getD k rz)).toList (u.rs.getD k rz):=by
 obtain ⟨b,off,e,hb,hc⟩:=h.f (by rw [InD.len h];omega)
 obtain ⟨cs,_,_,h3⟩:=hc k _ (at_getD (by rw [InD.len h];exact hk))
 have:=h3.1
 rw [this] at h3
 exact h3
theorem raw_bys {w:World} {k:Nat} (h:InD w S u t) (hk:k < t.files.length):BysIn w S (u.rs.getD k rz).A (u.rs.getD k rz).f.data:=(raw_in h hk).2.2.1
end
end Go.Proofs.Ytlipgnenbdchmaa.slot
end
