/-
  BookI0, BookImpl, BookIg
-/
import Derived.Test.YtbbjlfbemibfcaaGreatMrt17
import Derived.Test.YtbbjlfbemibfcaaGreatMrt42
import Derived.Test.YtbbjlfbemibfcaaGreatMrt45
import Derived.Test.YtbbjlfbemibfcaaGreatMrt25
set_option linter.unusedVariables false
set_option linter.unusedSimpArgs false
section
namespace Go.Proofs.YtbbjlfbemibfcaaGreat.book
open Go.RowKit Go.Proofs.YtbbjlfbemibfcaaGreat
open Go.Proofs.YtbbjlfbemibfcaaGreat.order (Or open_ worth)
open Go.Proofs.YtbbjlfbemibfcaaGreat.cell (Ce Ex)
open Go.Proofs.YtbbjlfbemibfcaaGreat.rec (Rc)
set_option maxRecDepth 20000
open Go.Proofs.YtbbjlfbemibfcaaGreat.order (oz)
theorem ask_lsn (s:St) (L:List Or) (a y la:Int):(ask s L a y la).1.lsn=s.lsn:=by
 unfold ask put;split
 ·split<;>rfl
 ·rfl
theorem event_lsn (s:St) (r:Rc):(event s r).1.lsn=s.lsn:=by
 unfold event;split
 ·rfl
 ·split
  ·rfl
  ·split<;>rfl
theorem doing_lsn (s:St) (r:Rc):(doing s r).1.lsn=s.lsn:=by
 unfold doing
 split
 ·split
  ·rfl
  ·split
   ·rfl
   ·exact ask_lsn _ _ _ _ _
 split
 ·split
  ·rfl
  ·split
   ·rfl
   ·split
    ·rfl
    ·exact ask_lsn _ _ _ _ _
 split
 ·split
  ·rfl
  ·split<;>rfl
 split
 ·split<;>rfl
 split
 ·rfl
 ·exact event_lsn s r
theorem doing_bound0 {s:St} {r:Rc} (h:r.k=4):(doing s r).2=0:=by
 by_cases hy:r.y = -1
 ·rw [doing_cap h hy]
 ·rw [doing_lim h hy]
theorem doing_zero {s:St} {r:Rc} (h:(doing s r).2=0):doing s r=((doing s r).1,0):=Prod.ext rfl h
theorem of_decide_true2 {p:Prop} [Decidable p] (h:(!decide p)=false):p:=by simpa using h
theorem of_decide_false2 {p:Prop} [Decidable p] (h:(!decide p)=true):¬ p:=by simpa using h
theorem fines_of {w:World} {v:Sv} {s:St} {S:Nat→Prop} (h:InS w S v s):Fines s:=⟨fine_or h.o,fine_ce h.c,h.fine⟩
section
variable {P:Program} {w0:World} {D:List Fact} {g i:Nat} {cs:Array Value} {e:TypeId}
theorem cell_load {T:TypeId} {d:TypeDesc} {off:Nat} {v:Value} (hi:D[i]?=some (cellsF g cs e)) (hu:P.underlying T=some d) (hd:d.isRow=false) (hv:cs[off]?=some v):Yields0 P w0 D (Instr.loadAt T (.pointer (some ⟨g,off,none⟩))) v:=fun w hw ha=>by
 have:=run_loadVar_one (P:=P) hu hd ((block_cell (block_at hi w ha) off v hv).1)
 simp only [Instr.loadAt,Instr.sureAddr,Sem.run_bind,Sem.run_pure,Result.andThen_ok,this]
theorem cell_loadA {T:TypeId} {d:TypeDesc} (hi:D[i]?=some (cellsF g cs e)) (hu:P.underlying T=some d) (hd:d.isRow=true) (hs:(P.info? T).map (·.size)=some cs.size):Yields0 P w0 D (Instr.loadAt T (.pointer (some ⟨g,0,none⟩))) (.agg cs):=fun w hw ha=>by
 have:=run_loadVar_mid (P:=P) w g 0 T cs.toList d (fun j v hv=>by rw [Nat.zero_add];exact (block_cell (block_at hi w ha) j v (by simpa using hv)).1) hu hd (by rw [hs];simp)
 simp only [Instr.loadAt,Instr.sureAddr,Sem.run_bind,Sem.run_pure,Result.andThen_ok,this]
theorem cell_store {T:TypeId} {off:Nat} {v:Value} {cs' : Array Value} (hi:D[i]?=some (cellsF g cs e)) (hv:v.cells=#[v]) (hs:(P.info? T).map (·.size)=some 1) (hn:(cs.toList.take off++[v]++cs.toList.drop (off+1)).toArray=cs') (ho:off+1≤cs.size∧v.oneCell'=true) :
  StepU P w0 D (Instr.storeAt T (.pointer (some ⟨g,off,none⟩)) v) (cellsF g cs e).S Unit (fun _=>undef) (fun _=>[cellsF g cs' e]):=by
 intro w hw ha
 have hb:=block_at hi w ha
 have he:Instr.storeAt T (.pointer (some ⟨g,off,none⟩)) v=Instr.storeAt T (.pointer (some ⟨g,off,none⟩)) (.agg #[v]):=by
  simp only [Instr.storeAt,storeVar,hv]
  rfl
 have hrow:=setCells_row (T:=e) (g:=g) [v] off w cs.toList (by simpa using hb) (by simpa using ho.1)
 refine ⟨(),w.setCells g off [v],?_,rfl,⟨?_,?_,?_,?_,?_⟩,news_one ?_ (cellsF_stable _ _ _) (fun k hk=>?_)⟩
 ·rw [he]
  exact run_store_elem (n:=1) T hb rfl ho.1 hs (by simp [ho.2])
 ·exact (setCells_below (Nat.zero_le _) _ _ w (Below.refl 0 w)).os
 ·exact (setCells_below (Nat.zero_le _) _ _ w (Below.refl 0 w)).tape
 ·exact (setCells_below (Nat.zero_le _) _ _ w (Below.refl 0 w)).output
 ·rw [setCells_size];exact Nat.le_refl _
 ·intro k _ hk
  exact setCells_other (fun e2=>hk e2) _ _ _
 ·show (w.setCells g off [v]).heap[g]?=some (.cells cs' e (0,0))
  rw [hrow,← hn];rfl
 ·simp only [cellsF] at hk
  subst hk
  exact ⟨.inl rfl,by rw [setCells_size];exact (Array.getElem?_eq_some_iff.1 hb).1⟩
end
section
variable {w:World} {D:List Fact} {S:Nat→Prop} {s:St} {r:Rc}
theorem res_lsn (hw:¬ Wrong s r) (y:ResT s r) (h:(doing s r).2=0):y.1.2.lsn=s.lsn∧Rightly y.1.2∧y.1.2=(doing s r).1:=by
 have e:=y.2 h
 have hd:do_ s r=({ (doing s r).1 with lsn:=s.lsn+1 },0):=do_yes hw (doing_zero h)
 obtain ⟨_,u,hc,hu⟩:=do_ok hd
 have h1:=came_right hw hc
 have hl:∀ a b:St,({ a with lsn:=s.lsn+1 } : St) = { b with lsn:=s.lsn+1 }→({ a with lsn:=0 } : St) = { b with lsn:=0 }:=fun a b h=>by
  have:=congrArg (fun z:St=>{ z with lsn:=0 }) h
  exact this
 have h2:=hl _ _ hu
 have hL:(doing s r).1.lsn=s.lsn:=doing_lsn s r
 have h3:(doing s r).1=u:=by
  have e2:(doing s r).1.lsn=u.lsn:=by rw [hL,h1.2.1]
  have:=congrArg (fun z:St=>{ z with lsn:=u.lsn }) h2
  have k1:(doing s r).1 = { (doing s r).1 with lsn:=u.lsn }:=by rw [← e2]
  have k2:u = { u with lsn:=u.lsn }:=rfl
  rw [k1];exact this
 refine ⟨by rw [e];exact hL,by rw [e,h3];exact h1.1,e⟩
theorem q_rows {i j k l:Nat} {v:Sv} {t:St} {u:St × Int} (hd:u=({ t with lsn:=s.lsn+1 },0)) (ht:Rightly t) (hl:t.lsn=s.lsn) (h1:D[i]?=some (ownF rdOrder 12 54 v.A1 t.os.length v.c1 t.os)) (h2:D[j]?=some (ownF rdCell 4 60 v.A2 t.cs.length v.c2 t.cs)) (h3:D[k]?=some (ownF rdExpo 3 51 v.A3 t.ls.length v.c3 t.ls)) (h4:D[l]?=some (ownF (rdInt .i64) 1 2 v.A4 t.ps.length v.c4 t.ps)) :
  ∃ y:Sv,(.tuple #[.agg (stc v { t with lsn:=s.lsn+1 }),.int .i64 0]:Value) = .tuple #[.agg (stc y u.1),.int .i64 u.2]∧Concl w D (fun w'=>InS w' (Sn S w w') y u.1):=by
 subst hd
 refine ⟨v,rfl,fun w' hb ha hy=>?_⟩
 obtain ⟨a1,b1⟩:=own_or (S:=S) h1 ha hy
 obtain ⟨a2,b2⟩:=own_ce (S:=S) h2 ha hy
 obtain ⟨a3,b3⟩:=own_ex (S:=S) h3 ha hy
 obtain ⟨a4,b4⟩:=own_in (S:=S) h4 ha hy
 have h5:=ht.1
 have h6:=ht.2.2.1
 exact ⟨a1,a2,a3,a4,b1,b2,b3,b4,by unfold frame.inR;simp only;omega⟩
end
theorem ldo (v:Sv) (s:St) (r:Rc) (g:Nat) (hs:Rightly s) (hF:Fines s) (hrf:r.fine) (hr:rec.right r=true) (hra:r.a < s.a∧r.y < s.y) (w:World):GivesD Tryz.prog w (cellsF g (stc v s) 79 :: [ownF rdOrder 12 54 v.A1 s.os.length v.c1 s.os,ownF rdCell 4 60 v.A2 s.cs.length v.c2 s.cs,ownF rdExpo 3 51 v.A3 s.ls.length v.c3 s.ls,ownF (rdInt .i64) 1 2 v.A4 s.ps.length v.c4 s.ps]) 46 #[.pointer (some ⟨g,0,none⟩),.agg (rec.rc r)] (ResT s r) (fun x=>.int .i64 (doing s r).2) (fun x=>cellsF g (stc x.1.1 x.1.2) 79 :: [ownF rdOrder 12 54 x.1.1.A1 x.1.2.os.length x.1.1.c1 x.1.2.os,ownF rdCell 4 60 x.1.1.A2 x.1.2.cs.length x.1.1.c2 x.1.2.cs,ownF rdExpo 3 51 x.1.1.A3 x.1.2.ls.length x.1.1.c3 x.1.2.ls,ownF (rdInt .i64) 1 2 x.1.1.A4 x.1.2.ps.length x.1.1.c4 x.1.2.ps]) :=
 gives_d (fn:=Tryz.f46) (r:=fun (x:ResT s r)=>.int .i64 (doing s r).2) (cs:=fun (x:ResT s r)=>(stc x.1.1 x.1.2)) (fs:=fun (x:ResT s r)=>[ownF rdOrder 12 54 x.1.1.A1 x.1.2.os.length x.1.1.c1 x.1.2.os,ownF rdCell 4 60 x.1.1.A2 x.1.2.cs.length x.1.1.c2 x.1.2.cs,ownF rdExpo 3 51 x.1.1.A3 x.1.2.ls.length x.1.1.c3 x.1.2.ls,ownF (rdInt .i64) 1 2 x.1.1.A4 x.1.2.ps.length x.1.1.c4 x.1.2.ps]) (t:=fun fr=>let k0:(ResT s r)→List Fact:=fun x=>[oO x.1.1.A1 x.1.2.os.length x.1.1.c1 x.1.2.os,oC x.1.1.A2 x.1.2.cs.length x.1.1.c2 x.1.2.cs,oX x.1.1.A3 x.1.2.ls.length x.1.1.c3 x.1.2.ls,oI x.1.1.A4 x.1.2.ps.length x.1.1.c4 x.1.2.ps,fr];let k1:(ResT s r)→Value:=fun x=>.int .i64 ((doing s r).2); .s (.cD (some 0) (ResT s r) k1 (fun x=>(stc x.1.1 x.1.2)) k0 (fun x2=>.z)) (.s (.cD (some 0) (ResT s r) k1 (fun x=>(stc x.1.1 x.1.2)) k0 (fun x4=>.z)) (.s (.cD (some 0) (ResT s r) k1 (fun x=>(stc x.1.1 x.1.2)) k0 (fun x6=>.z)) (.s (.cD (some 0) (ResT s r) (fun x=>.tuple #[]) (fun x=>(stc x.1.1 x.1.2)) k0 (fun x8=>.z)) (.s (.s .z .z) (.s (.cD (some 0) (ResT s r) k1 (fun x=>(stc x.1.1 x.1.2)) k0 (fun x12=>.z)) .z)))))) (X:=fun fr=>let k0:=cellsF g (stc v s) 79 :: [oO v.A1 s.os.length v.c1 s.os,oC v.A2 s.cs.length v.c2 s.cs,oX v.A3 s.ls.length v.c3 s.ls,oI v.A4 s.ps.length v.c4 s.ps,fr];let k1:Array Value:=#[.pointer (some ⟨g,0,none⟩),.agg (rec.rc r)];let k2:=(.int .i64 ((doing s r).2):Value);let k3:(ResT s r)→Value:=fun x=>.int .i64 ((doing s r).2);let k4:=(.int .i64 0:Value); ∀ g1:Nat,((decide (r.k=1))=true→GivesD Tryz.prog w k0 78 k1 (ResT s r) k3 (fun x=>cellsF g (stc x.1.1 x.1.2) 79 :: [oO x.1.1.A1 x.1.2.os.length x.1.1.c1 x.1.2.os,oC x.1.1.A2 x.1.2.cs.length x.1.1.c2 x.1.2.cs,oX x.1.1.A3 x.1.2.ls.length x.1.1.c3 x.1.2.ls,oI x.1.1.A4 x.1.2.ps.length x.1.1.c4 x.1.2.ps,fr])∧∀ x2:ResT s r,∃ x:ResT s r,k2 = .int .i64 (doing s r).2∧(some ⟨g,0,(stc x2.1.1 x2.1.2),.own 79⟩:Option Blk)=some ⟨g,0,(stc x.1.1 x.1.2),.own 79⟩∧Turns w [oO x2.1.1.A1 x2.1.2.os.length x2.1.1.c1 x2.1.2.os,oC x2.1.1.A2 x2.1.2.cs.length x2.1.1.c2 x2.1.2.cs,oX x2.1.1.A3 x2.1.2.ls.length x2.1.1.c3 x2.1.2.ls,oI x2.1.1.A4 x2.1.2.ps.length x2.1.1.c4 x2.1.2.ps,fr] ((rw4 x.1.1 x.1.2)++[fr]))∧((decide (r.k=1))=false→((decide (r.k=2))=true→GivesD Tryz.prog w k0 79 k1 (ResT s r) k3 (fun x=>cellsF g (stc x.1.1 x.1.2) 79 :: [oO x.1.1.A1 x.1.2.os.length x.1.1.c1 x.1.2.os,oC x.1.1.A2 x.1.2.cs.length x.1.1.c2 x.1.2.cs,oX x.1.1.A3 x.1.2.ls.length x.1.1.c3 x.1.2.ls,oI x.1.1.A4 x.1.2.ps.length x.1.1.c4 x.1.2.ps,fr])∧∀ x4:ResT s r,∃ x:ResT s r,k2 = .int .i64 (doing s r).2∧(some ⟨g,0,(stc x4.1.1 x4.1.2),.own 79⟩:Option Blk)=some ⟨g,0,(stc x.1.1 x.1.2),.own 79⟩∧Turns w [oO x4.1.1.A1 x4.1.2.os.length x4.1.1.c1 x4.1.2.os,oC x4.1.1.A2 x4.1.2.cs.length x4.1.1.c2 x4.1.2.cs,oX x4.1.1.A3 x4.1.2.ls.length x4.1.1.c3 x4.1.2.ls,oI x4.1.1.A4 x4.1.2.ps.length x4.1.1.c4 x4.1.2.ps,fr] ((rw4 x.1.1 x.1.2)++[fr]))∧((decide (r.k=2))=false→((decide (r.k=3))=true→GivesD Tryz.prog w k0 80 k1 (ResT s r) k3 (fun x=>cellsF g (stc x.1.1 x.1.2) 79 :: [oO x.1.1.A1 x.1.2.os.length x.1.1.c1 x.1.2.os,oC x.1.1.A2 x.1.2.cs.length x.1.1.c2 x.1.2.cs,oX x.1.1.A3 x.1.2.ls.length x.1.1.c3 x.1.2.ls,oI x.1.1.A4 x.1.2.ps.length x.1.1.c4 x.1.2.ps,fr])∧∀ x6:ResT s r,∃ x:ResT s r,k2 = .int .i64 (doing s r).2∧(some ⟨g,0,(stc x6.1.1 x6.1.2),.own 79⟩:Option Blk)=some ⟨g,0,(stc x.1.1 x.1.2),.own 79⟩∧Turns w [oO x6.1.1.A1 x6.1.2.os.length x6.1.1.c1 x6.1.2.os,oC x6.1.1.A2 x6.1.2.cs.length x6.1.1.c2 x6.1.2.cs,oX x6.1.1.A3 x6.1.2.ls.length x6.1.1.c3 x6.1.2.ls,oI x6.1.1.A4 x6.1.2.ps.length x6.1.1.c4 x6.1.2.ps,fr] ((rw4 x.1.1 x.1.2)++[fr]))∧((decide (r.k=3))=false→((decide (r.k=4))=true→GivesD Tryz.prog w k0 81 k1 (ResT s r) (fun x=>.tuple #[]) (fun x=>cellsF g (stc x.1.1 x.1.2) 79 :: [oO x.1.1.A1 x.1.2.os.length x.1.1.c1 x.1.2.os,oC x.1.1.A2 x.1.2.cs.length x.1.1.c2 x.1.2.cs,oX x.1.1.A3 x.1.2.ls.length x.1.1.c3 x.1.2.ls,oI x.1.1.A4 x.1.2.ps.length x.1.1.c4 x.1.2.ps,fr])∧∀ x8:ResT s r,∃ x:ResT s r,k4 = .int .i64 (doing s r).2∧(some ⟨g,0,(stc x8.1.1 x8.1.2),.own 79⟩:Option Blk)=some ⟨g,0,(stc x.1.1 x.1.2),.own 79⟩∧Turns w [oO x8.1.1.A1 x8.1.2.os.length x8.1.1.c1 x8.1.2.os,oC x8.1.1.A2 x8.1.2.cs.length x8.1.1.c2 x8.1.2.cs,oX x8.1.1.A3 x8.1.2.ls.length x8.1.1.c3 x8.1.2.ls,oI x8.1.1.A4 x8.1.2.ps.length x8.1.1.c4 x8.1.2.ps,fr] ((rw4 x.1.1 x.1.2)++[fr]))∧((decide (r.k=4))=false→((decide (r.k=5))=true→(r.on=true→∃ x:ResT s r,k4 = .int .i64 (doing s r).2∧(some ⟨g,0,#[.int .i64 s.a,.int .i64 s.y,.slice v.A1 s.os.length v.c1,.slice v.A2 s.cs.length v.c2,.slice v.A3 s.ls.length v.c3,.slice v.A4 s.ps.length v.c4,.bool true,.int .i64 s.last,.int .i64 s.seq,.int .i64 s.lsn],.own 79⟩:Option Blk)=some ⟨g,0,(stc x.1.1 x.1.2),.own 79⟩∧Turns w [oO v.A1 s.os.length v.c1 s.os,oC v.A2 s.cs.length v.c2 s.cs,oX v.A3 s.ls.length v.c3 s.ls,oI v.A4 s.ps.length v.c4 s.ps,fr] ((rw4 x.1.1 x.1.2)++[fr]))∧(r.on=false→∃ x:ResT s r,k4 = .int .i64 (doing s r).2∧(some ⟨g,0,#[.int .i64 s.a,.int .i64 s.y,.slice v.A1 s.os.length v.c1,.slice v.A2 s.cs.length v.c2,.slice v.A3 s.ls.length v.c3,.slice v.A4 s.ps.length v.c4,.bool false,.int .i64 s.last,.int .i64 s.seq,.int .i64 s.lsn],.own 79⟩:Option Blk)=some ⟨g,0,(stc x.1.1 x.1.2),.own 79⟩∧Turns w [oO v.A1 s.os.length v.c1 s.os,oC v.A2 s.cs.length v.c2 s.cs,oX v.A3 s.ls.length v.c3 s.ls,oI v.A4 s.ps.length v.c4 s.ps,fr] ((rw4 x.1.1 x.1.2)++[fr])))∧((decide (r.k=5))=false→((decide (r.k=6))=true→GivesD Tryz.prog w k0 82 k1 (ResT s r) k3 (fun x=>cellsF g (stc x.1.1 x.1.2) 79 :: [oO x.1.1.A1 x.1.2.os.length x.1.1.c1 x.1.2.os,oC x.1.1.A2 x.1.2.cs.length x.1.1.c2 x.1.2.cs,oX x.1.1.A3 x.1.2.ls.length x.1.1.c3 x.1.2.ls,oI x.1.1.A4 x.1.2.ps.length x.1.1.c4 x.1.2.ps,fr])∧∀ x12:ResT s r,∃ x:ResT s r,k2 = .int .i64 (doing s r).2∧(some ⟨g,0,(stc x12.1.1 x12.1.2),.own 79⟩:Option Blk)=some ⟨g,0,(stc x.1.1 x.1.2),.own 79⟩∧Turns w [oO x12.1.1.A1 x12.1.2.os.length x12.1.1.c1 x12.1.2.os,oC x12.1.1.A2 x12.1.2.cs.length x12.1.1.c2 x12.1.2.cs,oX x12.1.1.A3 x12.1.2.ls.length x12.1.1.c3 x12.1.2.ls,oI x12.1.1.A4 x12.1.2.ps.length x12.1.1.c4 x12.1.2.ps,fr] ((rw4 x.1.1 x.1.2)++[fr]))∧((decide (r.k=6))=false→∃ x:ResT s r,k4 = .int .i64 (doing s r).2∧(some ⟨g,0,(stc v s),.own 79⟩:Option Blk)=some ⟨g,0,(stc x.1.1 x.1.2),.own 79⟩∧Turns w [oO v.A1 s.os.length v.c1 s.os,oC v.A2 s.cs.length v.c2 s.cs,oX v.A3 s.ls.length v.c3 s.ls,oI v.A4 s.ps.length v.c4 s.ps,fr] ((rw4 x.1.1 x.1.2)++[fr])))))))) Tryz.func46 rfl (fun fr=>by kernel_rfl)
 (fun fr=>fun g1=>⟨fun h1=>have h1:r.k=1:=(by simpa using h1)
⟨(gives_turn (turns_idx [0,1,2,3,4,5] (by decide) rfl) (lbegin v s r g hs hF hrf hr h1 hra w)),fun x2=>⟨x2,rfl,rfl,(turns_idx [0,1,2,3,4] (by decide) rfl)⟩⟩,
 fun h1=>have h1:¬ r.k=1:=(by simpa using h1)
⟨fun h3=>have h3:r.k=2:=(by simpa using h3)
⟨(gives_turn (turns_idx [0,1,2,3,4,5] (by decide) rfl) (lchange v s r g hs hF hrf hr h3 w)),fun x4=>⟨x4,rfl,rfl,(turns_idx [0,1,2,3,4] (by decide) rfl)⟩⟩,
 fun h3=>have h3:¬ r.k=2:=(by simpa using h3)
⟨fun h5=>have h5:r.k=3:=(by simpa using h5)
⟨(gives_turn (turns_idx [0,1,2,3,4,5] (by decide) rfl) (lend v s r g hs hF hrf hr h5 w)),fun x6=>⟨x6,rfl,rfl,(turns_idx [0,1,2,3,4] (by decide) rfl)⟩⟩,
 fun h5=>have h5:¬ r.k=3:=(by simpa using h5)
⟨fun h7=>have h7:r.k=4:=(by simpa using h7)
⟨(gives_turn (turns_idx [0,1,2,3,4,5] (by decide) rfl) (lboundm v s r g hs hF hrf hr h7 hra w)),fun x8=>⟨x8,by rw [doing_bound0 h7],rfl,(turns_idx [0,1,2,3,4] (by decide) rfl)⟩⟩,
 fun h7=>have h7:¬ r.k=4:=(by simpa using h7)
⟨fun h9=>have h9:r.k=5:=(by simpa using h9)
⟨fun h10=>(q_done (S:={ s with k:=r.on }) (V:=v) (doing_switch h9) (by simp only [stc,h10]) (turns_rows [0,1,2,3,4] (by decide) rfl (by simp) (by simp) (by simp) (by simp))),
 fun h10=>(q_done (S:={ s with k:=r.on }) (V:=v) (doing_switch h9) (by simp only [stc,h10]) (turns_rows [0,1,2,3,4] (by decide) rfl (by simp) (by simp) (by simp) (by simp)))⟩,
 fun h9=>have h9:¬ r.k=5:=(by simpa using h9)
⟨fun h11=>have h11:r.k=6:=(by simpa using h11)
⟨(gives_turn (turns_idx [0,1,2,3,4,5] (by decide) rfl) (lhear v s r g hs hF hrf hr h11 w)),fun x12=>⟨x12,rfl,rfl,(turns_idx [0,1,2,3,4] (by decide) rfl)⟩⟩,
 fun h11=>have h11:¬ r.k=6:=(by simpa using h11)
(by exfalso;have:=rec_kind hr;omega)⟩⟩⟩⟩⟩⟩)
theorem bdo (v:Sv) (s:St) (r:Rc) (S:Nat→Prop)  (w:World) (h0:InS w S v s) (hS:∀ k,S k→k < w.heap.size) (hrf:r.fine):Calls Tryz.prog 19 #[.agg (stc v s),.agg (rec.rc r)] w fun e w' => ∃ x:Sv,e = .returned (.tuple #[.agg (stc x (do_ s r).1),.int .i64 (do_ s r).2])∧Below w.heap.size w w'∧(fun w'=>InS w' (Sn S w w') x (do_ s r).1) w' :=
 have h:=h0.all hS
 calls_q (fn:=Tryz.f19) (r:=fun (x:Sv)=>.tuple #[.agg (stc x (do_ s r).1),.int .i64 (do_ s r).2]) (Q:=fun (x:Sv)=>fun w'=>InS w' (Sn S w w') x (do_ s r).1) (t:=.cs (!decide (Wrong s r)) (.cm (Sv × Nat) (fun x=>.pointer (some ⟨x.2,0,none⟩)) (fun x=>(cellsF x.2 (stc x.1 s) 79 :: rw4 x.1 s)) (fun x2=>.cD none (ResT s r) (fun x=>.int .i64 ((doing s r).2)) (fun x=>#[]) (fun x=>(cellsF x2.2 (stc x.1.1 x.1.2) 79 :: rw4 x.1.1 x.1.2)) (fun x3=>let k0:Array Value:=#[.int .i64 x3.1.2.a,.int .i64 x3.1.2.y,.slice x3.1.1.A1 x3.1.2.os.length x3.1.1.c1,.slice x3.1.1.A2 x3.1.2.cs.length x3.1.1.c2,.slice x3.1.1.A3 x3.1.2.ls.length x3.1.1.c3,.slice x3.1.1.A4 x3.1.2.ps.length x3.1.1.c4,.bool x3.1.2.k,.int .i64 x3.1.2.last,.int .i64 x3.1.2.seq,.int .i64 (s.lsn+1)]; .s .z (.x (.int .i64 x3.1.2.lsn) (.e (.int .i64 (s.lsn+1)) (.w (Unit) (some 0) (fun x=>undef) (fun x=>[cellsF x2.2 k0 79]) (fun x5=>.x (.agg k0) .z))))))) .z) (X :=
 let k0:=(doing s r).2;let k1 := !decide (Wrong s r); ∀ g0:Nat,∀ g1:Nat,∀ g2:Nat,Gives Tryz.prog w [] 44 #[.agg (stc v s),.agg (rec.rc r)] (.bool k1)∧(k1=true→GivesM Tryz.prog w [] 45 #[.agg (stc v s)] (Sv × Nat) (fun x=>.pointer (some ⟨x.2,0,none⟩)) (fun x=>(cellsF x.2 (stc x.1 s) 79 :: rw4 x.1 s))∧∀ x2:Sv × Nat,let k2:Value:=.pointer (some ⟨x2.2,9,none⟩);GivesD Tryz.prog w (cellsF x2.2 (stc x2.1 s) 79 :: rw4 x2.1 s) 46 #[.pointer (some ⟨x2.2,0,none⟩),.agg (rec.rc r)] (ResT s r) (fun x=>.int .i64 k0) (fun x=>(cellsF x2.2 (stc x.1.1 x.1.2) 79 :: rw4 x.1.1 x.1.2))∧∀ x3:ResT s r,let k3:Array Value:=#[.int .i64 x3.1.2.a,.int .i64 x3.1.2.y,.slice x3.1.1.A1 x3.1.2.os.length x3.1.1.c1,.slice x3.1.1.A2 x3.1.2.cs.length x3.1.1.c2,.slice x3.1.1.A3 x3.1.2.ls.length x3.1.1.c3,.slice x3.1.1.A4 x3.1.2.ps.length x3.1.1.c4,.bool x3.1.2.k,.int .i64 x3.1.2.last,.int .i64 x3.1.2.seq,.int .i64 (s.lsn+1)];let k4:=cellsF x2.2 (stc x3.1.1 x3.1.2) 79 :: rw4 x3.1.1 x3.1.2;let k5:=cellsF x2.2 k3 79 :: rw4 x3.1.1 x3.1.2;((!decide (k0=0))=true→∃ x:Sv,(.tuple #[.agg (stc v s),.int .i64 k0]:Value) = .tuple #[.agg (stc x (do_ s r).1),.int .i64 (do_ s r).2]∧Concl w k4 (fun w'=>InS w' (Sn S w w') x (do_ s r).1))∧((!decide (k0=0))=false→Yields0 Tryz.prog w k4 (Instr.loadAt 2 k2) (.int .i64 x3.1.2.lsn)∧(.int .i64 (IntKind.i64.wrap (x3.1.2.lsn+1)):Value) = .int .i64 (s.lsn+1)∧StepU Tryz.prog w k4 (Instr.storeAt 2 k2 (.int .i64 (s.lsn+1))) ((cellsF x2.2 (stc x3.1.1 x3.1.2) 79).S) (Unit) (fun x=>undef) (fun x=>[cellsF x2.2 k3 79])∧∀ x5:Unit,Yields0 Tryz.prog w k5 (Instr.loadAt 27 (.pointer (some ⟨x2.2,0,none⟩))) (.agg k3)∧∃ x:Sv,(.tuple #[.agg k3,.int .i64 0]:Value) = .tuple #[.agg (stc x (do_ s r).1),.int .i64 (do_ s r).2]∧Concl w k5 (fun w'=>InS w' (Sn S w w') x (do_ s r).1)))∧(k1=false→∃ x:Sv,(.tuple #[.agg (stc v s),.int .i64 1]:Value) = .tuple #[.agg (stc x (do_ s r).1),.int .i64 (do_ s r).2]∧Concl w [] (fun w'=>InS w' (Sn S w w') x (do_ s r).1))) Tryz.func19 (by kernel_rfl)
 (fun g0=>fun g1=>fun g2=>⟨(fun w hw _=>lask v s r w (h.later hw) hrf),fun h1=>⟨(fun w2 hw _=>lledger v s w2 (h.later hw) (Lens.of (not_wrong (of_decide_false2 h1)).1) (not_wrong (of_decide_false2 h1)).1.2.2.2.1.2.2),fun x2=>⟨(ldo x2.1 s r x2.2 (not_wrong (of_decide_false2 h1)).1 (fines_of h) hrf (not_wrong (of_decide_false2 h1)).2.1 ⟨(not_wrong (of_decide_false2 h1)).2.2.2.1,(not_wrong (of_decide_false2 h1)).2.2.2.2.1⟩ w),fun x3=>⟨fun h4=>have h4:¬ ((doing s r).2)=0:=(by simpa using h4)
(q_same h0 hS (by rw [do_no (t:=(doing s r).1) (e:=(doing s r).2) (of_decide_false2 h1) rfl h4])),
 fun h4=>have h4:((doing s r).2)=0:=(by simpa using h4)
⟨(cell_load (i:=0) rfl rfl rfl rfl),⟨wrap_is (by rw [(res_lsn (of_decide_false2 h1) x3 h4).1]) (by have:=(not_wrong (of_decide_false2 h1)).1.2.2.1;omega) (by have:=(not_wrong (of_decide_false2 h1)).1.2.2.1;omega),⟨(cell_store (i:=0) (off:=9) rfl rfl (by kernel_rfl) rfl ⟨(by show 9+1≤10;decide),rfl⟩),fun x5=>⟨(cell_loadA (i:=0) rfl rfl rfl (by kernel_rfl)),(q_rows (i:=1) (j:=2) (k:=3) (l:=4) (by rw [(res_lsn (of_decide_false2 h1) x3 h4).2.2];exact do_yes (t:=(doing s r).1) (of_decide_false2 h1) (doing_zero h4)) (res_lsn (of_decide_false2 h1) x3 h4).2.1 (res_lsn (of_decide_false2 h1) x3 h4).1 rfl rfl rfl rfl)⟩⟩⟩⟩⟩⟩⟩,
 fun h1=>(q_same h0 hS (by rw [do_wrong (of_decide_true2 h1)]))⟩)
end Go.Proofs.YtbbjlfbemibfcaaGreat.book
end
section
namespace Go.Proofs.YtbbjlfbemibfcaaGreat.book
open Go.RowKit Go.Proofs.YtbbjlfbemibfcaaGreat
open Go.Proofs.YtbbjlfbemibfcaaGreat.order (Or open_ worth)
open Go.Proofs.YtbbjlfbemibfcaaGreat.cell (Ce Ex)
open Go.Proofs.YtbbjlfbemibfcaaGreat.rec (Rc)
set_option maxRecDepth 20000
open Go.Proofs.YtbbjlfbemibfcaaGreat.order (oz)
theorem bright (v:Sv) (s:St) (w:World) (h:InS w (Lt w.heap.size) v s):Calls Tryz.prog 18 #[.agg (stc v s)] w fun e w'=>e = .returned (.bool (right s))∧Below w.heap.size w w':=lright v s w h
theorem bnew (a y:Int) (l:Ex) (c:Int) (w:World) (_ha:frame.inR a) (_hy:frame.inR y) (hl:l.fine) (hc:frame.inR c):Calls Tryz.prog 20 #[.int .i64 a,.int .i64 y,.agg (cell.xc l),.int .i64 c] w fun e w' => ∃ x:Sv,e = .returned (.tuple #[.agg (stc x (newV a y l c).1),.int .i64 (newV a y l c).2])∧Below w.heap.size w w'∧InS w' (fun k=>w.heap.size≤k∧k < w'.heap.size) x (newV a y l c).1:=lnew a y l c w hl hc
end Go.Proofs.YtbbjlfbemibfcaaGreat.book
end
section
namespace Go.Proofs.YtbbjlfbemibfcaaGreat.book
set_option maxRecDepth 20000
open Go.RowKit Go.Proofs.YtbbjlfbemibfcaaGreat
open Go.Proofs.YtbbjlfbemibfcaaGreat.order (Or open_ worth oz)
open Go.Proofs.YtbbjlfbemibfcaaGreat.cell (Ce Ex)
open Go.Proofs.YtbbjlfbemibfcaaGreat.rec (Rc)
section
variable {w0:World} {D:List Fact} {v:Sv} {s:St} {r:Rc}
theorem i_right (hs:∀ w,Below w0.heap.size w0 w→All D w→InS w (Lt w.heap.size) v s):Gives Tryz.prog w0 D 18 #[.agg (stc v s)] (.bool (right s)):=fun w hw ha=>bright v s w (hs w hw ha)
theorem i_do {S:Nat→Prop} {W:World} (hd:Fixed w0 D S W) (hs:∀ w,Below w0.heap.size w0 w→All D w→InS w S v s) (hrf:r.fine) :
  GivesM Tryz.prog w0 D 19 #[.agg (stc v s),.agg (rec.rc r)] (Dat (fun w S v=>InS w S v (do_ s r).1) S W) (fun x=>.tuple #[.agg (stc x.1.2.2 (do_ s r).1),.int .i64 (do_ s r).2]) (fun x=>[poolF x.1.1 x.1.2.1]) :=
 gives_dat (R:=fun w S v=>InS w S v (do_ s r).1) (r:=fun b=>.tuple #[.agg (stc b (do_ s r).1),.int .i64 (do_ s r).2]) hd (fun w hw ha=>bdo v s r S w (hs w hw ha) (hd w hw ha).2 hrf)
theorem i_short:Gives Tryz.prog w0 D 9 #[.agg (stc v s)] (.bool (short s)):=gives (fun w=>rshort v s w)
end
theorem all_lt {w0:World} {D:List Fact} {v:Sv} {s:St} (h:InS w0 (Lt w0.heap.size) v s):∀ w,Below w0.heap.size w0 w→All D w→InS w (Lt w.heap.size) v s:=fun w hw _=>h.later hw
theorem dat_lt {w0:World} {D:List Fact} {S:Nat→Prop} {W:World} {t:St} (x:Dat (fun w S v=>InS w S v t) S W) (hd:Fixed w0 D S W) {i:Nat} (hi:D[i]?=some (poolF x.1.1 x.1.2.1)):∀ w,Below w0.heap.size w0 w→All D w→InS w (Lt w.heap.size) x.1.2.2 t :=
 fun w hw ha=>(x.later (keeps_in t) (hd w hw ha).1 (pool_at hi ha)).lt
end Go.Proofs.YtbbjlfbemibfcaaGreat.book
end
