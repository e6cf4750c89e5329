/-
  zlk, zd5, zll
-/
import Derived.Test.YtbbjlfbemibfcaaGreatMrr16
import Derived.Test.YtbbjlfbemibfcaaGreatMrr35
import Derived.Test.YtbbjlfbemibfcaaGreatMrr37
import Derived.Test.YtbbjlfbemibfcaaGreatMrr38
set_option linter.unusedVariables false
set_option linter.unusedSimpArgs false
section
namespace Go.Proofs.YtbbjlfbemibfcaaGreat.book
open Go.RowKit Go.Proofs.YtbbjlfbemibfcaaGreat
open Go.Proofs.YtbbjlfbemibfcaaGreat.order (Or open_ worth)
open Go.Proofs.YtbbjlfbemibfcaaGreat.cell (Ce Ex)
open Go.Proofs.YtbbjlfbemibfcaaGreat.rec (Rc)
set_option maxRecDepth 20000
open Go.Proofs.YtbbjlfbemibfcaaGreat.order (oz)
theorem qvu (s:St) (L:List Or) (a y la:Int):(ask s L a y la).1.ng=s.ng:=by
 unfold ask put;split
 ·split<;>rfl
 ·rfl
theorem q0e (s:St) (r:Rc):(Ot s r).1.ng=s.ng:=by
 unfold Ot;split
 ·rfl
 ·split
  ·rfl
  ·split<;>rfl
theorem q0f (s:St) (r:Rc):(doing s r).1.ng=s.ng:=by
 unfold doing
 split
 ·split
  ·rfl
  ·split
   ·rfl
   ·exact qvu _ _ _ _ _
 split
 ·split
  ·rfl
  ·split
   ·rfl
   ·split
    ·rfl
    ·exact qvu _ _ _ _ _
 split
 ·split
  ·rfl
  ·split<;>rfl
 split
 ·split<;>rfl
 split
 ·rfl
 ·exact q0e s r
theorem qtn {s:St} {r:Rc} (h:r.k=4):(doing s r).2=0:=by
 by_cases hy:r.y = -1
 ·rw [qq7 h hy]
 ·rw [qq8 h hy]
theorem qpf {s:St} {r:Rc} (h:(doing s r).2=0):doing s r=((doing s r).1,0):=Prod.ext rfl h
theorem qpg {p:Prop} [Decidable p] (h:(!decide p)=false):p:=by simpa using h
theorem qb1 {p:Prop} [Decidable p] (h:(!decide p)=true):¬ p:=by simpa using h
theorem qto {w:World} {v:Sv} {s:St} {S:Nat→Prop} (h:lu w S v s):xk s:=⟨Bh h.o,Jg h.c,h.fine⟩
section
variable {P:Program} {w0:World} {D:List Fact} {g i:Nat} {cs:Array Value} {e:TypeId}
theorem q0g {T:TypeId} {d:TypeDesc} {off:Nat} {v:Value} (hi:D[i]?=some (dw g cs e)) (hu:P.underlying T=some d) (hd:d.isRow=false) (hv:cs[off]?=some v):jd P w0 D (Instr.loadAt T (.pointer (some ⟨g,off,none⟩))) v:=fun w hw ha=>by
 have:=qju (P:=P) hu hd ((Dj (Ah hi w ha) off v hv).1)
 simp only [Instr.loadAt,Instr.sureAddr,Sem.run_bind,Sem.run_pure,Result.andThen_ok,this]
theorem qx1 {T:TypeId} {d:TypeDesc} (hi:D[i]?=some (dw g cs e)) (hu:P.underlying T=some d) (hd:d.isRow=true) (hs:(P.info? T).map (·.size)=some cs.size):jd P w0 D (Instr.loadAt T (.pointer (some ⟨g,0,none⟩))) (.agg cs):=fun w hw ha=>by
 have:=run_loadVar_mid (P:=P) w g 0 T cs.toList d (fun j v hv=>by rw [Nat.zero_add];exact (Dj (Ah hi w ha) j v (by simpa using hv)).1) hu hd (by rw [hs];simp)
 simp only [Instr.loadAt,Instr.sureAddr,Sem.run_bind,Sem.run_pure,Result.andThen_ok,this]
theorem qx2 {T:TypeId} {off:Nat} {v:Value} {cs' : Array Value} (hi:D[i]?=some (dw g cs e)) (hv:v.cells=#[v]) (hs:(P.info? T).map (·.size)=some 1) (hn:(cs.toList.take off++[v]++cs.toList.drop (off+1)).toArray=cs') (ho:off+1≤cs.size∧v.oneCell'=true) :
  Hu P w0 D (Instr.storeAt T (.pointer (some ⟨g,off,none⟩)) v) (dw g cs e).S Unit (fun _=>undef) (fun _=>[dw g cs' e]):=by
 intro w hw ha
 have hb:=Ah hi w ha
 have he:Instr.storeAt T (.pointer (some ⟨g,off,none⟩)) v=Instr.storeAt T (.pointer (some ⟨g,off,none⟩)) (.agg #[v]):=by
  simp only [Instr.storeAt,storeVar,hv]
  rfl
 have hrow:=Va (T:=e) (g:=g) [v] off w cs.toList (by simpa using hb) (by simpa using ho.1)
 refine ⟨(),w.setCells g off [v],?_,rfl,⟨?_,?_,?_,?_,?_⟩,Om ?_ (Zt _ _ _) (fun k hk=>?_)⟩
 ·rw [he]
  exact qhm (n:=1) T hb rfl ho.1 hs (by simp [ho.2])
 ·exact (Ii (Nat.zero_le _) _ _ w (Below.refl 0 w)).os
 ·exact (Ii (Nat.zero_le _) _ _ w (Below.refl 0 w)).tape
 ·exact (Ii (Nat.zero_le _) _ _ w (Below.refl 0 w)).output
 ·rw [setCells_size];exact Nat.le_refl _
 ·intro k _ hk
  exact Wu (fun e2=>hk e2) _ _ _
 ·show (w.setCells g off [v]).heap[g]?=some (.cells cs' e (0,0))
  rw [hrow,← hn];rfl
 ·simp only [dw] at hk
  subst hk
  exact ⟨.inl rfl,by rw [setCells_size];exact (Array.getElem?_eq_some_iff.1 hb).1⟩
end
section
variable {w:World} {D:List Fact} {S:Nat→Prop} {s:St} {r:Rc}
theorem qm5 (hw:¬ qc5 s r) (y:jr s r) (h:(doing s r).2=0):y.1.2.ng=s.ng∧aj y.1.2∧y.1.2=(doing s r).1:=by
 have e:=y.2 h
 have hd:do_ s r=({ (doing s r).1 with ng:=s.ng+1 },0):=qzh hw (qpf h)
 obtain ⟨_,u,hc,hu⟩:=q9o hd
 have h1:=qxf hw hc
 have hl:∀ a b:St,({ a with ng:=s.ng+1 } : St) = { b with ng:=s.ng+1 }→({ a with ng:=0 } : St) = { b with ng:=0 }:=fun a b h=>by
  have:=congrArg (fun z:St=>{ z with ng:=0 }) h
  exact this
 have h2:=hl _ _ hu
 have hL:(doing s r).1.ng=s.ng:=q0f s r
 have h3:(doing s r).1=u:=by
  have e2:(doing s r).1.ng=u.ng:=by rw [hL,h1.2.1]
  have:=congrArg (fun z:St=>{ z with ng:=u.ng }) h2
  have k1:(doing s r).1 = { (doing s r).1 with ng:=u.ng }:=by rw [← e2]
  have k2:u = { u with ng:=u.ng }:=rfl
  rw [k1];exact this
 refine ⟨by rw [e];exact hL,by rw [e,h3];exact h1.1,e⟩
theorem q8v {i j k l:Nat} {v:Sv} {t:St} {u:St × Int} (hd:u=({ t with ng:=s.ng+1 },0)) (ht:aj t) (hl:t.ng=s.ng) (h1:D[i]?=some (ah eu 12 54 v.A1 t.os.length v.c1 t.os)) (h2:D[j]?=some (ah gu 4 60 v.A2 t.cs.length v.c2 t.cs)) (h3:D[k]?=some (ah je 3 51 v.A3 t.ls.length v.c3 t.ls)) (h4:D[l]?=some (ah (bf .i64) 1 2 v.A4 t.ps.length v.c4 t.ps)) :
  ∃ y:Sv,(.tuple #[.agg (bg v { t with ng:=s.ng+1 }),.int .i64 0]:Value) = .tuple #[.agg (bg y u.1),.int .i64 u.2]∧Gm w D (fun w'=>lu w' (Sn S w w') y u.1):=by
 subst hd
 refine ⟨v,rfl,fun w' hb ha hy=>?_⟩
 obtain ⟨a1,b1⟩:=q71 (S:=S) h1 ha hy
 obtain ⟨a2,b2⟩:=qzg (S:=S) h2 ha hy
 obtain ⟨a3,b3⟩:=qzi (S:=S) h3 ha hy
 obtain ⟨a4,b4⟩:=qzj (S:=S) h4 ha hy
 have h5:=ht.1
 have h6:=ht.2.2.1
 exact ⟨a1,a2,a3,a4,b1,b2,b3,b4,by unfold frame.jh;simp only;omega⟩
end
theorem ldo (v:Sv) (s:St) (r:Rc) (g:Nat) (hs:aj s) (hF:xk s) (hrf:r.fine) (hr:rec.right r=true) (hra:r.a < s.a∧r.y < s.y) (w:World):qm Tryz.prog w (dw g (bg v s) 79 :: [ah eu 12 54 v.A1 s.os.length v.c1 s.os,ah gu 4 60 v.A2 s.cs.length v.c2 s.cs,ah je 3 51 v.A3 s.ls.length v.c3 s.ls,ah (bf .i64) 1 2 v.A4 s.ps.length v.c4 s.ps]) 46 #[.pointer (some ⟨g,0,none⟩),.agg (rec.rc r)] (jr s r) (fun x=>.int .i64 (doing s r).2) (fun x=>dw g (bg x.1.1 x.1.2) 79 :: [ah eu 12 54 x.1.1.A1 x.1.2.os.length x.1.1.c1 x.1.2.os,ah gu 4 60 x.1.1.A2 x.1.2.cs.length x.1.1.c2 x.1.2.cs,ah je 3 51 x.1.1.A3 x.1.2.ls.length x.1.1.c3 x.1.2.ls,ah (bf .i64) 1 2 x.1.1.A4 x.1.2.ps.length x.1.1.c4 x.1.2.ps]) :=
 Ql (fn:=Tryz.f46) (r:=fun (x:jr s r)=>.int .i64 (doing s r).2) (cs:=fun (x:jr s r)=>(bg x.1.1 x.1.2)) (fs:=fun (x:jr s r)=>[ah eu 12 54 x.1.1.A1 x.1.2.os.length x.1.1.c1 x.1.2.os,ah gu 4 60 x.1.1.A2 x.1.2.cs.length x.1.1.c2 x.1.2.cs,ah je 3 51 x.1.1.A3 x.1.2.ls.length x.1.1.c3 x.1.2.ls,ah (bf .i64) 1 2 x.1.1.A4 x.1.2.ps.length x.1.1.c4 x.1.2.ps]) (t:=fun fr=>let k0:(jr s r)→List Fact:=fun x=>[oO x.1.1.A1 x.1.2.os.length x.1.1.c1 x.1.2.os,oC x.1.1.A2 x.1.2.cs.length x.1.1.c2 x.1.2.cs,oX x.1.1.A3 x.1.2.ls.length x.1.1.c3 x.1.2.ls,oI x.1.1.A4 x.1.2.ps.length x.1.1.c4 x.1.2.ps,fr];let k1:(jr s r)→Value:=fun x=>.int .i64 ((doing s r).2); .s (.cD (some 0) (jr s r) k1 (fun x=>(bg x.1.1 x.1.2)) k0 (fun x2=>.z)) (.s (.cD (some 0) (jr s r) k1 (fun x=>(bg x.1.1 x.1.2)) k0 (fun x4=>.z)) (.s (.cD (some 0) (jr s r) k1 (fun x=>(bg x.1.1 x.1.2)) k0 (fun x6=>.z)) (.s (.cD (some 0) (jr s r) (fun x=>.tuple #[]) (fun x=>(bg x.1.1 x.1.2)) k0 (fun x8=>.z)) (.s (.s .z .z) (.s (.cD (some 0) (jr s r) k1 (fun x=>(bg x.1.1 x.1.2)) k0 (fun x12=>.z)) .z)))))) (X:=fun fr=>let k0:List Fact:=[oO v.A1 s.os.length v.c1 s.os,oC v.A2 s.cs.length v.c2 s.cs,oX v.A3 s.ls.length v.c3 s.ls,oI v.A4 s.ps.length v.c4 s.ps,fr];let k1:Array Value:=#[.pointer (some ⟨g,0,none⟩),.agg (rec.rc r)];let k2:=dw g (bg v s) 79 :: k0;let k3:=(.int .i64 ((doing s r).2):Value);let k4:(jr s r)→Value:=fun x=>.int .i64 ((doing s r).2);let k5:=(.int .i64 0:Value); ∀ g1:Nat,((decide (r.k=1))=true→qm Tryz.prog w k2 78 k1 (jr s r) k4 (fun x=>dw g (bg x.1.1 x.1.2) 79 :: [oO x.1.1.A1 x.1.2.os.length x.1.1.c1 x.1.2.os,oC x.1.1.A2 x.1.2.cs.length x.1.1.c2 x.1.2.cs,oX x.1.1.A3 x.1.2.ls.length x.1.1.c3 x.1.2.ls,oI x.1.1.A4 x.1.2.ps.length x.1.1.c4 x.1.2.ps,fr])∧∀ x2:jr s r,∃ x:jr s r,k3 = .int .i64 (doing s r).2∧(some ⟨g,0,(bg x2.1.1 x2.1.2),.own 79⟩:Option jv)=some ⟨g,0,(bg x.1.1 x.1.2),.own 79⟩∧iw w [oO x2.1.1.A1 x2.1.2.os.length x2.1.1.c1 x2.1.2.os,oC x2.1.1.A2 x2.1.2.cs.length x2.1.1.c2 x2.1.2.cs,oX x2.1.1.A3 x2.1.2.ls.length x2.1.1.c3 x2.1.2.ls,oI x2.1.1.A4 x2.1.2.ps.length x2.1.1.c4 x2.1.2.ps,fr] ((yx x.1.1 x.1.2)++[fr]))∧((decide (r.k=1))=false→((decide (r.k=2))=true→qm Tryz.prog w k2 79 k1 (jr s r) k4 (fun x=>dw g (bg x.1.1 x.1.2) 79 :: [oO x.1.1.A1 x.1.2.os.length x.1.1.c1 x.1.2.os,oC x.1.1.A2 x.1.2.cs.length x.1.1.c2 x.1.2.cs,oX x.1.1.A3 x.1.2.ls.length x.1.1.c3 x.1.2.ls,oI x.1.1.A4 x.1.2.ps.length x.1.1.c4 x.1.2.ps,fr])∧∀ x4:jr s r,∃ x:jr s r,k3 = .int .i64 (doing s r).2∧(some ⟨g,0,(bg x4.1.1 x4.1.2),.own 79⟩:Option jv)=some ⟨g,0,(bg x.1.1 x.1.2),.own 79⟩∧iw w [oO x4.1.1.A1 x4.1.2.os.length x4.1.1.c1 x4.1.2.os,oC x4.1.1.A2 x4.1.2.cs.length x4.1.1.c2 x4.1.2.cs,oX x4.1.1.A3 x4.1.2.ls.length x4.1.1.c3 x4.1.2.ls,oI x4.1.1.A4 x4.1.2.ps.length x4.1.1.c4 x4.1.2.ps,fr] ((yx x.1.1 x.1.2)++[fr]))∧((decide (r.k=2))=false→((decide (r.k=3))=true→qm Tryz.prog w k2 80 k1 (jr s r) k4 (fun x=>dw g (bg x.1.1 x.1.2) 79 :: [oO x.1.1.A1 x.1.2.os.length x.1.1.c1 x.1.2.os,oC x.1.1.A2 x.1.2.cs.length x.1.1.c2 x.1.2.cs,oX x.1.1.A3 x.1.2.ls.length x.1.1.c3 x.1.2.ls,oI x.1.1.A4 x.1.2.ps.length x.1.1.c4 x.1.2.ps,fr])∧∀ x6:jr s r,∃ x:jr s r,k3 = .int .i64 (doing s r).2∧(some ⟨g,0,(bg x6.1.1 x6.1.2),.own 79⟩:Option jv)=some ⟨g,0,(bg x.1.1 x.1.2),.own 79⟩∧iw w [oO x6.1.1.A1 x6.1.2.os.length x6.1.1.c1 x6.1.2.os,oC x6.1.1.A2 x6.1.2.cs.length x6.1.1.c2 x6.1.2.cs,oX x6.1.1.A3 x6.1.2.ls.length x6.1.1.c3 x6.1.2.ls,oI x6.1.1.A4 x6.1.2.ps.length x6.1.1.c4 x6.1.2.ps,fr] ((yx x.1.1 x.1.2)++[fr]))∧((decide (r.k=3))=false→((decide (r.k=4))=true→qm Tryz.prog w k2 81 k1 (jr s r) (fun x=>.tuple #[]) (fun x=>dw g (bg x.1.1 x.1.2) 79 :: [oO x.1.1.A1 x.1.2.os.length x.1.1.c1 x.1.2.os,oC x.1.1.A2 x.1.2.cs.length x.1.1.c2 x.1.2.cs,oX x.1.1.A3 x.1.2.ls.length x.1.1.c3 x.1.2.ls,oI x.1.1.A4 x.1.2.ps.length x.1.1.c4 x.1.2.ps,fr])∧∀ x8:jr s r,∃ x:jr s r,k5 = .int .i64 (doing s r).2∧(some ⟨g,0,(bg x8.1.1 x8.1.2),.own 79⟩:Option jv)=some ⟨g,0,(bg x.1.1 x.1.2),.own 79⟩∧iw w [oO x8.1.1.A1 x8.1.2.os.length x8.1.1.c1 x8.1.2.os,oC x8.1.1.A2 x8.1.2.cs.length x8.1.1.c2 x8.1.2.cs,oX x8.1.1.A3 x8.1.2.ls.length x8.1.1.c3 x8.1.2.ls,oI x8.1.1.A4 x8.1.2.ps.length x8.1.1.c4 x8.1.2.ps,fr] ((yx x.1.1 x.1.2)++[fr]))∧((decide (r.k=4))=false→((decide (r.k=5))=true→(r.on=true→∃ x:jr s r,k5 = .int .i64 (doing s r).2∧(some ⟨g,0,#[.int .i64 s.a,.int .i64 s.y,.slice v.A1 s.os.length v.c1,.slice v.A2 s.cs.length v.c2,.slice v.A3 s.ls.length v.c3,.slice v.A4 s.ps.length v.c4,.bool true,.int .i64 s.last,.int .i64 s.seq,.int .i64 s.ng],.own 79⟩:Option jv)=some ⟨g,0,(bg x.1.1 x.1.2),.own 79⟩∧iw w k0 ((yx x.1.1 x.1.2)++[fr]))∧(r.on=false→∃ x:jr s r,k5 = .int .i64 (doing s r).2∧(some ⟨g,0,#[.int .i64 s.a,.int .i64 s.y,.slice v.A1 s.os.length v.c1,.slice v.A2 s.cs.length v.c2,.slice v.A3 s.ls.length v.c3,.slice v.A4 s.ps.length v.c4,.bool false,.int .i64 s.last,.int .i64 s.seq,.int .i64 s.ng],.own 79⟩:Option jv)=some ⟨g,0,(bg x.1.1 x.1.2),.own 79⟩∧iw w k0 ((yx x.1.1 x.1.2)++[fr])))∧((decide (r.k=5))=false→((decide (r.k=6))=true→qm Tryz.prog w k2 82 k1 (jr s r) k4 (fun x=>dw g (bg x.1.1 x.1.2) 79 :: [oO x.1.1.A1 x.1.2.os.length x.1.1.c1 x.1.2.os,oC x.1.1.A2 x.1.2.cs.length x.1.1.c2 x.1.2.cs,oX x.1.1.A3 x.1.2.ls.length x.1.1.c3 x.1.2.ls,oI x.1.1.A4 x.1.2.ps.length x.1.1.c4 x.1.2.ps,fr])∧∀ x12:jr s r,∃ x:jr s r,k3 = .int .i64 (doing s r).2∧(some ⟨g,0,(bg x12.1.1 x12.1.2),.own 79⟩:Option jv)=some ⟨g,0,(bg x.1.1 x.1.2),.own 79⟩∧iw w [oO x12.1.1.A1 x12.1.2.os.length x12.1.1.c1 x12.1.2.os,oC x12.1.1.A2 x12.1.2.cs.length x12.1.1.c2 x12.1.2.cs,oX x12.1.1.A3 x12.1.2.ls.length x12.1.1.c3 x12.1.2.ls,oI x12.1.1.A4 x12.1.2.ps.length x12.1.1.c4 x12.1.2.ps,fr] ((yx x.1.1 x.1.2)++[fr]))∧((decide (r.k=6))=false→∃ x:jr s r,k5 = .int .i64 (doing s r).2∧(some ⟨g,0,(bg v s),.own 79⟩:Option jv)=some ⟨g,0,(bg x.1.1 x.1.2),.own 79⟩∧iw w k0 ((yx x.1.1 x.1.2)++[fr])))))))) Tryz.func46 rfl (fun fr=>by kernel_rfl)
 (fun fr=>fun g1=>⟨fun h1=>have h1:r.k=1:=(by simpa using h1)
⟨(bn (oq [0,1,2,3,4,5] (by decide) rfl) (q8t v s r g hs hF hrf hr h1 hra w)),fun x2=>⟨x2,rfl,rfl,(oq [0,1,2,3,4] (by decide) rfl)⟩⟩,
 fun h1=>have h1:¬ r.k=1:=(by simpa using h1)
⟨fun h3=>have h3:r.k=2:=(by simpa using h3)
⟨(bn (oq [0,1,2,3,4,5] (by decide) rfl) (q6g v s r g hs hF hrf hr h3 w)),fun x4=>⟨x4,rfl,rfl,(oq [0,1,2,3,4] (by decide) rfl)⟩⟩,
 fun h3=>have h3:¬ r.k=2:=(by simpa using h3)
⟨fun h5=>have h5:r.k=3:=(by simpa using h5)
⟨(bn (oq [0,1,2,3,4,5] (by decide) rfl) (lend v s r g hs hF hrf hr h5 w)),fun x6=>⟨x6,rfl,rfl,(oq [0,1,2,3,4] (by decide) rfl)⟩⟩,
 fun h5=>have h5:¬ r.k=3:=(by simpa using h5)
⟨fun h7=>have h7:r.k=4:=(by simpa using h7)
⟨(bn (oq [0,1,2,3,4,5] (by decide) rfl) (q6j v s r g hs hF hrf hr h7 hra w)),fun x8=>⟨x8,by rw [qtn h7],rfl,(oq [0,1,2,3,4] (by decide) rfl)⟩⟩,
 fun h7=>have h7:¬ r.k=4:=(by simpa using h7)
⟨fun h9=>have h9:r.k=5:=(by simpa using h9)
⟨fun h10=>(qkr (S:={ s with k:=r.on }) (V:=v) (qmb h9) (by simp only [bg,h10]) (Kr [0,1,2,3,4] (by decide) rfl (by simp) (by simp) (by simp) (by simp))),
 fun h10=>(qkr (S:={ s with k:=r.on }) (V:=v) (qmb h9) (by simp only [bg,h10]) (Kr [0,1,2,3,4] (by decide) rfl (by simp) (by simp) (by simp) (by simp)))⟩,
 fun h9=>have h9:¬ r.k=5:=(by simpa using h9)
⟨fun h11=>have h11:r.k=6:=(by simpa using h11)
⟨(bn (oq [0,1,2,3,4,5] (by decide) rfl) (zab v s r g hs hF hrf hr h11 w)),fun x12=>⟨x12,rfl,rfl,(oq [0,1,2,3,4] (by decide) rfl)⟩⟩,
 fun h11=>have h11:¬ r.k=6:=(by simpa using h11)
(by exfalso;have:=q2e hr;omega)⟩⟩⟩⟩⟩⟩)
theorem bdo (v:Sv) (s:St) (r:Rc) (S:Nat→Prop)  (w:World) (h0:lu w S v s) (hS:∀ k,S k→k < w.heap.size) (hrf:r.fine):Calls Tryz.prog 19 #[.agg (bg v s),.agg (rec.rc r)] w fun e w' => ∃ x:Sv,e = .returned (.tuple #[.agg (bg x (do_ s r).1),.int .i64 (do_ s r).2])∧Below w.heap.size w w'∧(fun w'=>lu w' (Sn S w w') x (do_ s r).1) w' :=
 have h:=h0.all hS
 qu3 (fn:=Tryz.f19) (r:=fun (x:Sv)=>.tuple #[.agg (bg x (do_ s r).1),.int .i64 (do_ s r).2]) (Q:=fun (x:Sv)=>fun w'=>lu w' (Sn S w w') x (do_ s r).1) (t:=.cs (!decide (qc5 s r)) (.cm (Sv × Nat) (fun x=>.pointer (some ⟨x.2,0,none⟩)) (fun x=>(dw x.2 (bg x.1 s) 79 :: yx x.1 s)) (fun x2=>.cD none (jr s r) (fun x=>.int .i64 ((doing s r).2)) (fun x=>#[]) (fun x=>(dw x2.2 (bg x.1.1 x.1.2) 79 :: yx x.1.1 x.1.2)) (fun x3=>let k0:Array Value:=#[.int .i64 x3.1.2.a,.int .i64 x3.1.2.y,.slice x3.1.1.A1 x3.1.2.os.length x3.1.1.c1,.slice x3.1.1.A2 x3.1.2.cs.length x3.1.1.c2,.slice x3.1.1.A3 x3.1.2.ls.length x3.1.1.c3,.slice x3.1.1.A4 x3.1.2.ps.length x3.1.1.c4,.bool x3.1.2.k,.int .i64 x3.1.2.last,.int .i64 x3.1.2.seq,.int .i64 (s.ng+1)]; .s .z (.x (.int .i64 x3.1.2.ng) (.e (.int .i64 (s.ng+1)) (.w (Unit) (some 0) (fun x=>undef) (fun x=>[dw x2.2 k0 79]) (fun x5=>.x (.agg k0) .z))))))) .z) (X :=
 let k0:=(doing s r).2;let k1 := !decide (qc5 s r); ∀ g0:Nat,∀ g1:Nat,∀ g2:Nat,iq Tryz.prog w [] 44 #[.agg (bg v s),.agg (rec.rc r)] (.bool k1)∧(k1=true→qg Tryz.prog w [] 45 #[.agg (bg v s)] (Sv × Nat) (fun x=>.pointer (some ⟨x.2,0,none⟩)) (fun x=>(dw x.2 (bg x.1 s) 79 :: yx x.1 s))∧∀ x2:Sv × Nat,let k2:Value:=.pointer (some ⟨x2.2,9,none⟩);qm Tryz.prog w (dw x2.2 (bg x2.1 s) 79 :: yx x2.1 s) 46 #[.pointer (some ⟨x2.2,0,none⟩),.agg (rec.rc r)] (jr s r) (fun x=>.int .i64 k0) (fun x=>(dw x2.2 (bg x.1.1 x.1.2) 79 :: yx x.1.1 x.1.2))∧∀ x3:jr s r,let k3:Array Value:=#[.int .i64 x3.1.2.a,.int .i64 x3.1.2.y,.slice x3.1.1.A1 x3.1.2.os.length x3.1.1.c1,.slice x3.1.1.A2 x3.1.2.cs.length x3.1.1.c2,.slice x3.1.1.A3 x3.1.2.ls.length x3.1.1.c3,.slice x3.1.1.A4 x3.1.2.ps.length x3.1.1.c4,.bool x3.1.2.k,.int .i64 x3.1.2.last,.int .i64 x3.1.2.seq,.int .i64 (s.ng+1)];let k4:=dw x2.2 (bg x3.1.1 x3.1.2) 79 :: yx x3.1.1 x3.1.2;let k5:=dw x2.2 k3 79 :: yx x3.1.1 x3.1.2;((!decide (k0=0))=true→∃ x:Sv,(.tuple #[.agg (bg v s),.int .i64 k0]:Value) = .tuple #[.agg (bg x (do_ s r).1),.int .i64 (do_ s r).2]∧Gm w k4 (fun w'=>lu w' (Sn S w w') x (do_ s r).1))∧((!decide (k0=0))=false→jd Tryz.prog w k4 (Instr.loadAt 2 k2) (.int .i64 x3.1.2.ng)∧(.int .i64 (IntKind.i64.wrap (x3.1.2.ng+1)):Value) = .int .i64 (s.ng+1)∧Hu Tryz.prog w k4 (Instr.storeAt 2 k2 (.int .i64 (s.ng+1))) ((dw x2.2 (bg x3.1.1 x3.1.2) 79).S) (Unit) (fun x=>undef) (fun x=>[dw x2.2 k3 79])∧∀ x5:Unit,jd Tryz.prog w k5 (Instr.loadAt 27 (.pointer (some ⟨x2.2,0,none⟩))) (.agg k3)∧∃ x:Sv,(.tuple #[.agg k3,.int .i64 0]:Value) = .tuple #[.agg (bg x (do_ s r).1),.int .i64 (do_ s r).2]∧Gm w k5 (fun w'=>lu w' (Sn S w w') x (do_ s r).1)))∧(k1=false→∃ x:Sv,(.tuple #[.agg (bg v s),.int .i64 1]:Value) = .tuple #[.agg (bg x (do_ s r).1),.int .i64 (do_ s r).2]∧Gm w [] (fun w'=>lu w' (Sn S w w') x (do_ s r).1))) Tryz.func19 (by kernel_rfl)
 (fun g0=>fun g1=>fun g2=>⟨(fun w hw _=>zkr v s r w (h.later hw) hrf),fun h1=>⟨(fun w2 hw _=>q54 v s w2 (h.later hw) (Lens.of (Vm (qb1 h1)).1) (Vm (qb1 h1)).1.2.2.2.1.2.2),fun x2=>⟨(ldo x2.1 s r x2.2 (Vm (qb1 h1)).1 (qto h) hrf (Vm (qb1 h1)).2.1 ⟨(Vm (qb1 h1)).2.2.2.1,(Vm (qb1 h1)).2.2.2.2.1⟩ w),fun x3=>⟨fun h4=>have h4:¬ ((doing s r).2)=0:=(by simpa using h4)
(qzf h0 hS (by rw [q9t (t:=(doing s r).1) (e:=(doing s r).2) (qb1 h1) rfl h4])),
 fun h4=>have h4:((doing s r).2)=0:=(by simpa using h4)
⟨(q0g (i:=0) rfl rfl rfl rfl),⟨lg (by rw [(qm5 (qb1 h1) x3 h4).1]) (by have:=(Vm (qb1 h1)).1.2.2.1;omega) (by have:=(Vm (qb1 h1)).1.2.2.1;omega),⟨(qx2 (i:=0) (off:=9) rfl rfl (by kernel_rfl) rfl ⟨(by show 9+1≤10;decide),rfl⟩),fun x5=>⟨(qx1 (i:=0) rfl rfl rfl (by kernel_rfl)),(q8v (i:=1) (j:=2) (k:=3) (l:=4) (by rw [(qm5 (qb1 h1) x3 h4).2.2];exact qzh (t:=(doing s r).1) (qb1 h1) (qpf h4)) (qm5 (qb1 h1) x3 h4).2.1 (qm5 (qb1 h1) x3 h4).1 rfl rfl rfl rfl)⟩⟩⟩⟩⟩⟩⟩,
 fun h1=>(qzf h0 hS (by rw [q2f (qpg h1)]))⟩)
end Go.Proofs.YtbbjlfbemibfcaaGreat.book
end
section
namespace Go.Proofs.YtbbjlfbemibfcaaGreat.book
open Go.RowKit Go.Proofs.YtbbjlfbemibfcaaGreat
open Go.Proofs.YtbbjlfbemibfcaaGreat.order (Or open_ worth)
open Go.Proofs.YtbbjlfbemibfcaaGreat.cell (Ce Ex)
open Go.Proofs.YtbbjlfbemibfcaaGreat.rec (Rc)
set_option maxRecDepth 20000
open Go.Proofs.YtbbjlfbemibfcaaGreat.order (oz)
theorem q8w (v:Sv) (s:St) (w:World) (h:lu w (Lt w.heap.size) v s):Calls Tryz.prog 18 #[.agg (bg v s)] w fun e w'=>e = .returned (.bool (right s))∧Below w.heap.size w w':=qz3 v s w h
theorem zlm (a y:Int) (l:Ex) (c:Int) (w:World) (_ha:frame.jh a) (_hy:frame.jh y) (hl:l.fine) (hc:frame.jh c):Calls Tryz.prog 20 #[.int .i64 a,.int .i64 y,.agg (cell.xc l),.int .i64 c] w fun e w' => ∃ x:Sv,e = .returned (.tuple #[.agg (bg x (newV a y l c).1),.int .i64 (newV a y l c).2])∧Below w.heap.size w w'∧lu w' (fun k=>w.heap.size≤k∧k < w'.heap.size) x (newV a y l c).1:=zln a y l c w hl hc
end Go.Proofs.YtbbjlfbemibfcaaGreat.book
end
section
namespace Go.Proofs.YtbbjlfbemibfcaaGreat.book
set_option maxRecDepth 20000
open Go.RowKit Go.Proofs.YtbbjlfbemibfcaaGreat
open Go.Proofs.YtbbjlfbemibfcaaGreat.order (Or open_ worth oz)
open Go.Proofs.YtbbjlfbemibfcaaGreat.cell (Ce Ex)
open Go.Proofs.YtbbjlfbemibfcaaGreat.rec (Rc)
section
variable {w0:World} {D:List Fact} {v:Sv} {s:St} {r:Rc}
theorem qp6 (hs:∀ w,Below w0.heap.size w0 w→All D w→lu w (Lt w.heap.size) v s):iq Tryz.prog w0 D 18 #[.agg (bg v s)] (.bool (right s)):=fun w hw ha=>q8w v s w (hs w hw ha)
theorem zlp {S:Nat→Prop} {W:World} (hd:Uf w0 D S W) (hs:∀ w,Below w0.heap.size w0 w→All D w→lu w S v s) (hrf:r.fine) :
  qg Tryz.prog w0 D 19 #[.agg (bg v s),.agg (rec.rc r)] (Dat (fun w S v=>lu w S v (do_ s r).1) S W) (fun x=>.tuple #[.agg (bg x.1.2.2 (do_ s r).1),.int .i64 (do_ s r).2]) (fun x=>[C9 x.1.1 x.1.2.1]) :=
 qjx (R:=fun w S v=>lu w S v (do_ s r).1) (r:=fun b=>.tuple #[.agg (bg b (do_ s r).1),.int .i64 (do_ s r).2]) hd (fun w hw ha=>bdo v s r S w (hs w hw ha) (hd w hw ha).2 hrf)
theorem qmk {u:Sv} {t:St} (hs:∀ w,Below w0.heap.size w0 w→All D w→lu w (Lt w.heap.size) v s) (ht:∀ w,Below w0.heap.size w0 w→All D w→lu w (Lt w.heap.size) u t):iq Tryz.prog w0 D 16 #[.agg (bg v s),.agg (bg u t)] (.bool (decide (s=t))):=fun w hw ha=>zac v s u t w (hs w hw ha) (ht w hw ha)
theorem qvv:iq Tryz.prog w0 D 9 #[.agg (bg v s)] (.bool (short s)):=gives (fun w=>q8x v s w)
end
theorem Ih {w0:World} {D:List Fact} {v:Sv} {s:St} (h:lu w0 (Lt w0.heap.size) v s):∀ w,Below w0.heap.size w0 w→All D w→lu w (Lt w.heap.size) v s:=fun w hw _=>h.later hw
theorem V4 {w0:World} {D:List Fact} {S:Nat→Prop} {W:World} {t:St} (x:Dat (fun w S v=>lu w S v t) S W) (hd:Uf w0 D S W) {i:Nat} (hi:D[i]?=some (C9 x.1.1 x.1.2.1)):∀ w,Below w0.heap.size w0 w→All D w→lu w (Lt w.heap.size) x.1.2.2 t :=
 fun w hw ha=>(x.later (qsx t) (hd w hw ha).1 (Z4 hi ha)).lt
end Go.Proofs.YtbbjlfbemibfcaaGreat.book
end
