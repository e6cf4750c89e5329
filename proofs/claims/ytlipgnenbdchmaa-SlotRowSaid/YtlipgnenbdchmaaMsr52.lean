/-
  SlotG, Awake14, SlotKeepsW
-/
import Derived.Test.YtlipgnenbdchmaaMsr49
import Derived.Test.YtlipgnenbdchmaaMsr43
import Derived.Test.YtlipgnenbdchmaaMsr11
import Derived.Test.YtlipgnenbdchmaaMsr47
import Derived.Test.YtlipgnenbdchmaaMsr51
set_option linter.unusedVariables false
set_option linter.unusedSimpArgs false
section
namespace Go.Proofs.Ytlipgnenbdchmaa.slot
open Go.RowKit Go.Proofs.Ytlipgnenbdchmaa Go.Proofs.Ytlipgnenbdchmaa.disk
open Go.Proofs.Ytlipgnenbdchmaa.wal (Dv dc InD RetD RetB keeps_d)
set_option maxRecDepth 20000
section
variable {w0:World} {D:List Fact} {S:Nat→Prop} {W:World} {u:Dv} {t:DiskD} {s:Sl}
theorem g_swrite {r:DiskD × Int} (e:writeS t s=r) (hF:Fixed w0 D S W) (hin:∀ w,Below w0.heap.size w0 w→All D w→InD w S u t) (hs:shortB t.files=true) :
  GivesM Try.prog w0 D 18 #[.agg (dc u t),.agg (sc s)] (Dat (fun w S v=>InD w S v r.1) S W) (fun x=>.tuple #[.agg (dc x.1.2.2 r.1),.int .i64 r.2]) (fun x=>[poolF x.1.1 x.1.2.1]):=by
 subst e
 exact gives_dat (R:=fun w S v=>InD w S v (writeS t s).1) (r:=fun b=>.tuple #[.agg (dc b (writeS t s).1),.int .i64 (writeS t s).2]) hF (fun w hw ha=>v_write u t s S w (hin w hw ha) (hF w hw ha).2 hs)
theorem g_slread {q:Sl × Int} (e:readS t=q) (hd:∀ w,Below w0.heap.size w0 w→All D w→InD w (Lt w.heap.size) u t) (hs:shortB t.files=true):Gives Try.prog w0 D 16 #[.agg (dc u t)] (.tuple #[.agg (sc q.1),.int .i64 q.2]):=by
 subst e;exact g_sread2 hd hs
end
theorem run_eq2 (a b:Sl) (ha:a.fine) (hb:b.fine) (W:World):(Op.equalIn 10000 26 (.agg (sc a)) (.agg (sc b))).run Try.prog W = .ok (decide (a=b)) W:=by
 have kl:∀ s:Sl,s.fine→Try.prog.keyLits 2 26 (sc s).toList=some [.int .i64 s.g,.int .i64 s.l]:=by
  intro s h
  have h1:(Lit.int .i64 s.g).wf=true:=rec.wf64 h.1
  have h2:(Lit.int .i64 s.l).wf=true:=rec.wf64 h.2
  rw [kl_struct 1 _ Try.underlying26 (by kernel_rfl) (by kernel_rfl)]
  have c1:Try.prog.cellsOf 2=1:=by kernel_rfl
  simp [c1,sc,kl_int 0 _ Try.underlying2,h1,h2]
 refine run_eq_by (by kernel_rfl) 2 (by kernel_rfl) (by kernel_rfl) (kl a ha) (kl b hb) _ ?_ W
 obtain ⟨a1,a2⟩:=a
 obtain ⟨b1,b2⟩:=b
 simp
section
variable {w0:World} {D:List Fact} {a b:Sl}
theorem slot_eql (ha:a.fine) (hb:b.fine) (ox oy:Operand):Yields0 Try.prog w0 D (do eqGuard .eql 26 ox oy (.agg (sc a)) (.agg (sc b));Go.binOp .eql 26 (.agg (sc a)) (.agg (sc b))) (.bool (decide (a=b))):=eql_agg (by kernel_rfl) (run_eq2 a b ha hb) ox oy
theorem slot_neq (ha:a.fine) (hb:b.fine) (ox oy:Operand):Yields0 Try.prog w0 D (do eqGuard .neq 26 ox oy (.agg (sc a)) (.agg (sc b));Go.binOp .neq 26 (.agg (sc a)) (.agg (sc b))) (.bool (!decide (a=b))):=neq_agg (by kernel_rfl) (run_eq2 a b ha hb) ox oy
end
theorem sz_fine:sz.fine:=⟨⟨by decide,by decide⟩,⟨by decide,by decide⟩⟩
theorem reads_fine (t:DiskD):(readS t).1.fine:=by
 have h:∀ L nm n,Sl.fine n→Sl.fine (pickS L nm n):=fun L nm n hn=>by
  rcases pick_cases L nm n with e | ⟨e,h2⟩
  ·rw [e];exact hn
  ·rw [e];exact right_fine (dec_ok h2).1
 unfold readS
 split
 ·exact sz_fine
 ·split
  ·exact sz_fine
  ·split
   ·exact sz_fine
   ·exact h _ _ _ (h _ _ _ sz_fine)
theorem nil_d {w:World} {S:Nat→Prop} {r f:Int} {dn:Bool} (hr:inI r) (hf:inI f):InD w S ⟨none,0,[]⟩ ⟨[],r,f,dn⟩:=⟨fun h=>absurd h (by simp),rfl,Nat.zero_le _,Nat.zero_le _,hr,hf⟩
theorem write_short {t:DiskD} {s:Sl} (h:shortB t.files=true):shortB (writeS t s).1.files=true:=by
 unfold writeS
 split
 ·rename_i h0
  have hr:=ag_right h0
  unfold stepsD
  split
  ·split
   ·exact right_short (right_sync (right_append (empty_right hr)))
   ·exact right_short (right_append (empty_right hr))
  ·exact right_short (empty_right hr)
 ·exact h
theorem back_short {t:DiskD} {keep:List Int} {f:Int} (hs:shortB t.files=true):shortB (backD t keep f).1.files=true:=by
 cases hr:rightB t with
 |true=>exact right_short (right_back hr)
 |false=>unfold backD;rw [if_neg (by rw [hr];simp)];exact hs
theorem InD.fz {w:World} {S:Nat→Prop} {u:Dv} {t:DiskD} {k:Int} (h:InD w S u t) (hk:inI k):InD w S u ⟨t.files,t.room,k,t.down⟩:=⟨h.f,h.m,h.l,h.c,h.r,hk⟩
end Go.Proofs.Ytlipgnenbdchmaa.slot
end
section
namespace Go.Proofs.Ytlipgnenbdchmaa.slot
open Go.RowKit Go.Proofs.Ytlipgnenbdchmaa Go.Proofs.Ytlipgnenbdchmaa.disk
open Go.Proofs.Ytlipgnenbdchmaa.wal (Dv dc InD RetD RetB keeps_d rdRaw RawF rfc rz fz keeps_raw leaf_raw raw_cells info_file)
open Go.Proofs.Ytlipgnenbdchmaa.dsk (low_alike RB keeps_bys)
open Go.Proofs.Ytlipgnenbdchmaa.frame (be be_len be_lt u le4 num num_lt seg seg_lt seg_len sg)
set_option maxRecDepth 20000
abbrev s14:Sl:=⟨1,4⟩
abbrev s27:Sl:=⟨2,7⟩
theorem s27_fine:s27.fine:=⟨⟨by decide,by decide⟩,⟨by decide,by decide⟩⟩
def v00:Dv:=⟨none,0,[]⟩
def d00:DiskD:=⟨[],99, -1,false⟩
def da:DiskD:=(writeS d00 s14).1
def db:DiskD:=(writeS da s27).1
theorem wa:writeS d00 s14=(da,0):=Prod.ext rfl (by decide +kernel)
theorem wb:writeS da s27=(db,0):=Prod.ext rfl (by decide +kernel)
theorem ag_db:againstS db s27=8:=by decide +kernel
theorem wc:writeS db s27=(db,8):=by rw [wr_no (by rw [ag_db];decide),ag_db]
theorem ra:readS d00=(sz,7):=by decide +kernel
theorem rb:readS db=(s27,0):=by decide +kernel
theorem db_len:db.files.length=2:=by decide +kernel
theorem d00_short:shortB d00.files=true:=by decide +kernel
theorem da_short:shortB da.files=true:=write_short d00_short
theorem db_short:shortB db.files=true:=write_short da_short
theorem d00_in {w:World} {S:Nat→Prop} : InD w S v00 d00:=nil_d (by unfold inI;omega) (by unfold inI;omega)
theorem g_name3 {w0:World} {D:List Fact} : Gives Try.prog w0 D 14 #[.int .i64 3] (.string nOdd):=g_sname 3
theorem awake14   (w:World):Calls Try.prog 6 #[] w fun e w'=>e = .returned (.bool true)∧Below w.heap.size w w' :=
 calls_by (fn:=Try.f6) (r:=.bool true) (t:=.c (.tuple #[.agg (sc sz),.int .i64 7]) (.cm (Dat (fun w S v=>InD w S v da) (fun _=>False) w) (fun x=>.tuple #[.agg (dc x.1.2.2 da),.int .i64 0]) (fun x=>[poolF x.1.1 x.1.2.1]) (fun x1=>.cm (Dat (fun w S v=>InD w S v db) (Un (fun _=>False) x1.1.2.1) x1.1.1) (fun x=>.tuple #[.agg (dc x.1.2.2 db),.int .i64 0]) (fun x=>[poolF x.1.1 x.1.2.1]) (fun x2=>.cm (Dat (fun w S v=>InD w S v db) (Un (Un (fun _=>False) x1.1.2.1) x2.1.2.1) x2.1.1) (fun x=>.tuple #[.agg (dc x.1.2.2 db),.int .i64 8]) (fun x=>[poolF x.1.1 x.1.2.1]) (fun x3=>.c (.tuple #[.agg (sc s27),.int .i64 0]) (.k (.k (.k (.k (.k (.k (.k (.k (.k (.k (.x (.bool true) (.k (.e (.bool true) (.k (.c (.string nOdd) (.x (.bool true) .z))))))))))))))))))))) (X :=
 let k0:Value:=.string (⟨#[115,108,111,116,46,49]⟩);let k1:Value:=.agg (sc s27); ∀ g0:Nat,Gives Try.prog w [] 16 #[.agg (dc v00 d00)] (.tuple #[.agg (sc sz),.int .i64 7])∧∀ g1:Nat,GivesM Try.prog w [] 18 #[.agg (dc v00 d00),.agg (sc s14)] (Dat (fun w S v=>InD w S v da) (fun _=>False) w) (fun x=>.tuple #[.agg (dc x.1.2.2 da),.int .i64 0]) (fun x=>[poolF x.1.1 x.1.2.1])∧∀ x1:Dat (fun w S v=>InD w S v da) (fun _=>False) w,∀ g2:Nat,GivesM Try.prog w [poolF x1.1.1 x1.1.2.1] 18 #[.agg (dc x1.1.2.2 da),.agg (sc s27)] (Dat (fun w S v=>InD w S v db) (Un (fun _=>False) x1.1.2.1) x1.1.1) (fun x=>.tuple #[.agg (dc x.1.2.2 db),.int .i64 0]) (fun x=>[poolF x.1.1 x.1.2.1])∧∀ x2:Dat (fun w S v=>InD w S v db) (Un (fun _=>False) x1.1.2.1) x1.1.1,∀ g3:Nat,GivesM Try.prog w [poolF x2.1.1 x2.1.2.1,poolF x1.1.1 x1.1.2.1] 18 #[.agg (dc x2.1.2.2 db),.agg (sc s27)] (Dat (fun w S v=>InD w S v db) (Un (Un (fun _=>False) x1.1.2.1) x2.1.2.1) x2.1.1) (fun x=>.tuple #[.agg (dc x.1.2.2 db),.int .i64 8]) (fun x=>[poolF x.1.1 x.1.2.1])∧∀ x3:Dat (fun w S v=>InD w S v db) (Un (Un (fun _=>False) x1.1.2.1) x2.1.2.1) x2.1.1,let k2:List Fact:=[poolF x3.1.1 x3.1.2.1,poolF x2.1.1 x2.1.2.1,poolF x1.1.1 x1.1.2.1];  ∀ g4:Nat,Gives Try.prog w k2 16 #[.agg (dc x2.1.2.2 db)] (.tuple #[.agg (sc s27),.int .i64 0])∧∀ g5:Nat,Yields0 Try.prog w k2 (do eqGuard BinOp.eql 26 (.tmp 60) (.tmp 61) k1 k1;Go.binOp BinOp.eql 26 k1 k1) (.bool true)∧(.bool (decide ((db.files.length:Int)=2)):Value) = .bool true∧Gives Try.prog w k2 14 #[.int .i64 3] (.string nOdd)∧Yields0 Try.prog w k2 (do eqGuard BinOp.eql 9 (.tmp 71) (.const k0) (.string nOdd) k0;Go.binOp BinOp.eql 9 (.string nOdd) k0) (.bool true)∧((.bool true:Value) = .bool true)) Try.func6 (by kernel_rfl)
 (fun g0=>⟨(g_slread (q:=(sz,7)) ra (fun w1 _ _=>d00_in) d00_short),fun g1=>⟨(g_swrite (r:=(da,0)) wa (fixed_low (fun k hk=>hk.elim)) (fun w1 _ _=>d00_in) d00_short),fun x1=>fun g2=>⟨(g_swrite (r:=(db,0)) wb (fixed_next (fixed_low (fun k hk=>hk.elim)) x1 (i:=0) rfl) (fun w1 hw ha=>((dat_in (keeps_d da) (fixed_low (fun k hk=>hk.elim)) x1 (i:=0) rfl w1 hw ha))) da_short),fun x2=>fun g3=>⟨(g_swrite (r:=(db,8)) wc (fixed_next (fixed_next (fixed_low (fun k hk=>hk.elim)) x1 (i:=1) rfl) x2 (i:=0) rfl) (fun w1 hw ha=>((dat_in (keeps_d db) (fixed_next (fixed_low (fun k hk=>hk.elim)) x1 (i:=1) rfl) x2 (i:=0) rfl w1 hw ha))) db_short),fun x3=>fun g4=>⟨(g_slread (q:=(s27,0)) rb (fun w1 hw ha=>(dat_all (keeps_d db) (fixed_next (fixed_low (fun k hk=>hk.elim)) x1 (i:=2) rfl) x2 (i:=1) rfl w1 hw ha)) db_short),fun g5=>⟨(by have:=slot_eql (w0:=w) (D:=[poolF x3.1.1 x3.1.2.1,poolF x2.1.1 x2.1.2.1,poolF x1.1.1 x1.1.2.1]) (a:=s27) (b:=s27) s27_fine s27_fine (.tmp 60) (.tmp 61);rw [decide_eq_true rfl] at this;exact this),⟨(by rw [db_len];rfl),⟨g_name3,⟨(by have:=str_eql (P:=Try.prog) (w0:=w) (D:=[poolF x3.1.1 x3.1.2.1,poolF x2.1.1 x2.1.2.1,poolF x1.1.1 x1.1.2.1]) (T:=9) (a:=nOdd) (b:=nOdd) (.tmp 71) (.const (.string nOdd));rw [decide_eq_true rfl] at this;exact this),rfl⟩⟩⟩⟩⟩⟩⟩⟩⟩)
end Go.Proofs.Ytlipgnenbdchmaa.slot
end
section
namespace Go.Proofs.Ytlipgnenbdchmaa.slot
open Go.RowKit Go.Proofs.Ytlipgnenbdchmaa Go.Proofs.Ytlipgnenbdchmaa.disk
open Go.Proofs.Ytlipgnenbdchmaa.wal (Dv dc InD RetD RetB keeps_d rdRaw RawF rfc rz fz keeps_raw leaf_raw raw_cells info_file)
open Go.Proofs.Ytlipgnenbdchmaa.dsk (low_alike RB keeps_bys)
open Go.Proofs.Ytlipgnenbdchmaa.frame (be be_len be_lt u le4 num num_lt seg seg_lt seg_len sg)
set_option maxRecDepth 20000
section
variable {P:Program} {w0 W:World} {D:List Fact} {S:Nat→Prop} {u u2:Dv} {t t2:DiskD}
theorem rem_n {T:TypeId} {a m:Nat} (hm:¬ ((m:Int)=0)) (ox oy:Operand):Yields0 P w0 D (do eqGuard .rem T ox oy (.int .i64 (a:Int)) (.int .i64 (m:Int));Go.binOp .rem T (.int .i64 (a:Int)) (.int .i64 (m:Int))) (.int .i64 ((a % m:Nat):Int)):=fun w _ _=>by
 have e:Int.tmod (a:Int) (m:Int)=((a % m:Nat):Int):=by rw [Int.ofNat_tmod]
 have e1:eqGuard .rem T ox oy (.int .i64 (a:Int)) (.int .i64 (m:Int))=pure ():=rfl
 have e2:Go.binOp .rem T (.int .i64 (a:Int)) (.int .i64 (m:Int))=Op.intDiv .rem .i64 (a:Int) (m:Int):=by simp [Go.binOp]
 rw [e1,Sem.run_bind,Sem.run_pure,Result.andThen_ok,e2]
 unfold Op.intDiv
 rw [if_neg hm]
 simp only [e]
 rfl
end
end Go.Proofs.Ytlipgnenbdchmaa.slot
end
