/-
  DiskImpl13, DiskImpl14, DiskImpl15, DiskImpl15c
-/
import Derived.Test.YtlipgnenbdchmaaMsg32
import Derived.Deep.RegionHeld3
set_option linter.unusedVariables false
set_option linter.unusedSimpArgs false
section
namespace Go.Proofs.Ytlipgnenbdchmaa.disk
set_option maxRecDepth 20000
open Go.RowKit
theorem with_here {fs:List FileD} (h:Row fs) {f:FileD} (hl:look f.name fs=none):withF f fs=fs.take (placeN f.name fs)++f :: fs.drop (placeN f.name fs):=by
 have hsp:=place_spec (nm:=f.name) h
 have hle:=place_le f.name fs
 rw [with_eq f h]
 have e1:ahead f.name fs=fs.take (placeN f.name fs):=by
  have h1:(fs.take (placeN f.name fs)).filter (fun g=>decide (nlt g.name f.name))=fs.take (placeN f.name fs):=by
   rw [List.filter_eq_self]
   intro g hg
   obtain ⟨t,ht,rfl⟩:=List.getElem_of_mem hg
   rw [List.length_take] at ht
   rw [List.getElem_take]
   exact decide_eq_true ((hsp t _ (List.getElem?_eq_getElem (by omega))).1 (by omega))
  have h2:(fs.drop (placeN f.name fs)).filter (fun g=>decide (nlt g.name f.name))=[]:=by
   rw [List.filter_eq_nil_iff]
   intro g hg
   obtain ⟨t,ht,rfl⟩:=List.getElem_of_mem hg
   rw [List.length_drop] at ht
   rw [List.getElem_drop]
   simpa using (hsp (placeN f.name fs+t) _ (List.getElem?_eq_getElem (by omega))).2 (by omega)
  show fs.filter _=_
  conv=>lhs;rw [← List.take_append_drop (placeN f.name fs) fs]
  rw [List.filter_append,h1,h2,List.append_nil]
 have e2:behind f.name fs=fs.drop (placeN f.name fs):=by
  have h1:(fs.take (placeN f.name fs)).filter (fun g=>decide (nlt f.name g.name))=[]:=by
   rw [List.filter_eq_nil_iff]
   intro g hg
   obtain ⟨t,ht,rfl⟩:=List.getElem_of_mem hg
   rw [List.length_take] at ht
   rw [List.getElem_take]
   simpa using nlt_asymm ((hsp t _ (List.getElem?_eq_getElem (by omega))).1 (by omega))
  have h2:(fs.drop (placeN f.name fs)).filter (fun g=>decide (nlt f.name g.name))=fs.drop (placeN f.name fs):=by
   rw [List.filter_eq_self]
   intro g hg
   have hm:g ∈ fs:=List.mem_of_mem_drop hg
   obtain ⟨t,ht,rfl⟩:=List.getElem_of_mem hg
   rw [List.length_drop] at ht
   have h3:=(hsp (placeN f.name fs+t) _ (List.getElem?_eq_getElem (by omega))).2 (by omega)
   have h4:=look_none hl _ hm
   rw [List.getElem_drop] at h4 ⊢
   rcases nlt_tri fs[placeN f.name fs+t].name f.name with h5 | h5 | h5
   ·exact absurd h5 h3
   ·exact absurd h5 h4
   ·exact decide_eq_true h5
  show fs.filter _=_
  conv=>lhs;rw [← List.take_append_drop (placeN f.name fs) fs]
  rw [List.filter_append,h1,h2,List.nil_append]
 rw [e1,e2,List.append_assoc]
 rfl
end Go.Proofs.Ytlipgnenbdchmaa.disk
end
section
namespace Go.Proofs.Ytlipgnenbdchmaa.disk
set_option maxRecDepth 20000
open Go.RowKit
theorem allowed_fr (n:Nat) (room fuse:Int) (down:Bool) (nm:ByteArray) (fs:List FileD) (x:Int) (w:World) (hn:fs.length=n) (hr:inI room) (hfu:inI fuse) (hsh:shortB fs=true) (hnm:nm.size≤100) (hx:firstE ⟨fs,room,fuse,down⟩ nm nm=x) :
  ∀ (A1:Option Addr) (c1:Nat) (S1:Nat→Prop) (w1 W:World) (d0 d1 d2 d3 r0 r1 r2 r3:Value),DFr 24 w w1 W d0 d1 d2 d3 r0 r1 r2 r3→OwnF w1 (w.heap.size+2) 51 S1 A1 n c1 fs→(∀ b,S1 b→w.heap.size+2≤b∧b < w1.heap.size) →
   Calls Try.prog 50 #[.agg #[.slice A1 n c1,.int .i64 room,.int .i64 fuse,.bool down],.string nm] W fun e w'=>e = .returned (.int .i64 x)∧Below W.heap.size W w' :=
 fun A1 c1 S1 w1 W d0 d1 d2 d3 r0 r1 r2 r3 h ho hs=>dallowed A1 n c1 room fuse down nm fs x (Lt W.heap.size) W (fun _ h=>h) (fr_reads h ho hs) hn ho.cap.1 ho.cap.2 hr hfu (by have:=(used_short hsh).1;omega) (by unfold maxLen;omega) hx
end Go.Proofs.Ytlipgnenbdchmaa.disk
end
section
namespace Go.Proofs.Ytlipgnenbdchmaa.disk
set_option maxRecDepth 20000
open Go.RowKit
theorem step_append_runI {P:Program} {ops:Array Oper} {o:Oper} {a:Act} {w:World} {K:Act→World→Prop} {Q:Exit→Act→World→Prop} {E:Prop}
  (hg:o.guard=none) (s x:Operand) (t:TypeId) (hop:o.op=Op.call { callee:=Callee.builtin Builtin.append,args:=#[s,x],argTypes:=#[t,t] })
  (v u:Value) (hs:a.eval s=v) (hx:a.eval x=u) {v' : Value} {w' : World} (hr:(Builtin.append_ #[t,t] o.type #[v,u]).run P w = .ok v' w') (hK:K (a.put o.dst v') w') :
  if Region.wanted o (yielded ops a.tmps)=true then Oper.wp P o a w K Q else E:=by
 have hw:Region.wanted o (yielded ops a.tmps)=true:=by simp [Region.wanted,hg]
 rw [if_pos hw]
 unfold Oper.wp
 simp [execOp,hop,resolve,invoke,builtin,hs,hx,hr,Result.andThen]
 exact hK
theorem used_fr (n:Nat) (room fuse:Int) (down:Bool) (fs:List FileD) (u:Nat) (w:World) (hn:fs.length=n) (hsh:shortB fs=true) (hu:used fs=u) :
  ∀ (A1:Option Addr) (c1:Nat) (S1:Nat→Prop) (w1 W:World) (d0 d1 d2 d3 r0 r1 r2 r3:Value),DFr 24 w w1 W d0 d1 d2 d3 r0 r1 r2 r3→OwnF w1 (w.heap.size+2) 51 S1 A1 n c1 fs→(∀ b,S1 b→w.heap.size+2≤b∧b < w1.heap.size) →
   Calls Try.prog 52 #[.agg #[.slice A1 n c1,.int .i64 room,.int .i64 fuse,.bool down]] W fun e w'=>e = .returned (.int .i64 (u:Nat))∧Below W.heap.size W w' :=
 fun A1 c1 S1 w1 W d0 d1 d2 d3 r0 r1 r2 r3 h ho hs=>dused0 A1 n c1 room fuse down fs u (Lt W.heap.size) W (fun _ h=>h) (fr_reads h ho hs) hn (by have:=ho.cap;omega) (by have:=(used_short hsh).1;omega) hu
theorem place_fr (n:Nat) (nm:ByteArray) (fs:List FileD) (p:Nat) (b:Bool) (w:World) (hn:fs.length=n) (hsh:shortB fs=true) (hrow:Row fs) (hp:placeN nm fs=p) (hb:(look nm fs).isSome=b) :
  ∀ (A1:Option Addr) (c1:Nat) (S1:Nat→Prop) (w1 W:World) (d0 d1 d2 d3 r0 r1 r2 r3:Value),DFr 24 w w1 W d0 d1 d2 d3 r0 r1 r2 r3→OwnF w1 (w.heap.size+2) 51 S1 A1 n c1 fs→(∀ b,S1 b→w.heap.size+2≤b∧b < w1.heap.size) →
   Calls Try.prog 51 #[.slice A1 n c1,.string nm] W fun e w'=>e = .returned (.tuple #[.int .i64 (p:Nat),.bool b])∧Below W.heap.size W w' :=
 fun A1 c1 S1 w1 W d0 d1 d2 d3 r0 r1 r2 r3 h ho hs=>dplace A1 n c1 nm fs p b (Lt W.heap.size) W (fun _ h=>h) (fr_reads h ho hs) hn (by have:=(used_short hsh).2;omega) hrow hp hb
theorem op_app (d:DiskD) (nm:ByteArray) (b:List Nat) :
  (firstE d nm nm≠0∧appendD d nm b=(d,firstE d nm nm)) ∨
  (firstE d nm nm=0∧rightB d=true ∧ -1≤d.fuse ∧
   ((appE d nm b=6∧appendD d nm b=(d,6)) ∨
    ∃ f2 dn2 x2,appE d nm b=0∧spentD d.fuse d.down=((f2,dn2),x2)∧appendD d nm b=(⟨appF d.files nm b,d.room,f2,dn2⟩,x2))):=by
 by_cases h:firstE d nm nm=0
 ·have hr:=(first_zero.1 h).1
  have hfz:=((right_iff d).1 hr).2.1
  refine .inr ⟨h,hr,hfz,?_⟩
  have h6:appE d nm b=6∨appE d nm b=0:=by unfold appE;split<;>simp
  rcases h6 with h6 | h6
  ·exact .inl ⟨h6,op_pre h h6 (by simp)⟩
  ·by_cases hz:d.fuse=0
   ·exact .inr ⟨0,true,9,h6,by unfold spentD;rw [if_pos hz],op_down h h6 hz⟩
   ·refine .inr ⟨if 0 < d.fuse then d.fuse - 1 else d.fuse,d.down,0,h6,?_,op_done h h6 hz rfl⟩
    unfold spentD
    rw [if_neg hz]
    by_cases h3:d.fuse = -1
    ·rw [if_pos h3,h3];rfl
    ·rw [if_neg h3,if_pos (by omega)]
 ·exact .inl ⟨h,op_first rfl h⟩
set_option maxHeartbeats 8000000 in
theorem dappend_first (A:Option Addr) (n c:Nat) (room fuse:Int) (down:Bool) (nm:ByteArray) (Ab:Option Addr) (nb cb:Nat) (bs:List Nat) (fs:List FileD) (r:DiskD × Int) (S:Nat→Prop) (w:World) (hS:∀ b,S b→b < w.heap.size) (hf:FilesIn w S A fs) (hn:fs.length=n) (hnc:n≤c) (hcm:c≤maxLen) (hr:inI room) (hfu:inI fuse) (hsh:shortB fs=true) (hnm:nm.size≤100) (hb:BysIn w S Ab bs) (hbn:bs.length=nb) (hbc:nb≤cb) (hbm:cb≤maxLen) (hbl:nb≤70000) (hv:appendD ⟨fs,room,fuse,down⟩ nm bs=r) (hq:firstE ⟨fs,room,fuse,down⟩ nm nm≠0) :
  Calls Try.prog 32 #[.agg #[.slice A n c,.int .i64 room,.int .i64 fuse,.bool down],.string nm,.slice Ab nb cb] w (RetOp S w r):=by
 have HCP:=Lib.hid (dcopy_fr A n c room fuse down fs S w hS hf hn hnc hcm hsh)
 have hus:=used_short hsh
 obtain ⟨y,hy⟩:∃ y,firstE ⟨fs,room,fuse,down⟩ nm nm=y:=⟨_,rfl⟩
 obtain ⟨u,hu⟩:∃ u,used fs=u:=⟨_,rfl⟩
 have HAL:=Lib.hid (allowed_fr n room fuse down nm fs y w hn hr hfu hsh hnm hy)
 have HUS:=Lib.hid (used_fr n room fuse down fs u w hn hsh hu)
 have HN:=Lib.hid hn
 have HU:=Lib.hid hu
 have hu70:u≤70000:=by rw [← hu];exact hus.1
 have hn70:n≤70:=by rw [← hn];exact hus.2
 have HR2:Hid (r=(⟨fs,room,fuse,down⟩,y)):=Lib.hid (by rw [← hv,← hy];exact op_first rfl hq)
 have hy1:(y != 0)=true:=by rw [← hy];simpa using hq
 clear hf hn hnc hcm hsh hv hS hb hbn hbc hbm hy hu hq hus
 go_enter Try.func32,Try.ntmps32
 go_wp2_with (first
  |((with_reducible refine HCP.out.mono ?_);rintro e w1 ⟨A1,c1,S1,rfl,HO1,HAP,HS1,F1⟩;obtain ⟨b0,b1,b2,b3,q0,q1,q2,q3,bf0,bf1,bf2,bf3,qf0,qf1,qf2,qf3⟩:=F1.out.cells;have F2:=Lib.hid (F1.out.setBox (.slice A1 n c1) (.int .i64 room) (.int .i64 fuse) (.bool down)))
  |((with_reducible refine (HAL.out _ _ _ _ _ _ _ _ _ _ _ _ _ F2.out HO1.out HS1.out).mono ?_);rintro e wa ⟨rfl,hga⟩;have Fa:=Lib.hid (F2.out.below hga);obtain ⟨ca0,ca1,ca2,ca3,caq0,caq1,caq2,caq3,caf0,caf1,caf2,caf3,cag0,cag1,cag2,cag3⟩:=Fa.out.cells))
 refine bodyPost_ret (v:=.tuple #[.agg #[.slice A1 n c1,.int .i64 room,.int .i64 fuse,.bool down],.int .i64 y]) (by simp [results,Try.results32,go_sem,caq0,caq1,caq2,caq3]) rfl ?_
 rw [HR2.out]
 have F9:=Fa.out.setRes (.slice A1 n c1) (.int .i64 room) (.int .i64 fuse) (.bool down)
 exact F9.ret (F9.own HO1.out (Nat.le_refl _) HS1.out) (by omega) (fun b hb=>by have:=HS1.out b hb;have:=F9.size;omega) _ _ _ _
set_option maxHeartbeats 8000000 in
theorem dappend_full2 (A:Option Addr) (n c:Nat) (room fuse:Int) (down:Bool) (nm:ByteArray) (Ab:Option Addr) (nb cb:Nat) (bs:List Nat) (fs:List FileD) (r:DiskD × Int) (S:Nat→Prop) (w:World) (hS:∀ b,S b→b < w.heap.size) (hf:FilesIn w S A fs) (hn:fs.length=n) (hnc:n≤c) (hcm:c≤maxLen) (hr:inI room) (hfu:inI fuse) (hsh:shortB fs=true) (hnm:nm.size≤100) (hb:BysIn w S Ab bs) (hbn:bs.length=nb) (hbc:nb≤cb) (hbm:cb≤maxLen) (hbl:nb≤70000) (hv:appendD ⟨fs,room,fuse,down⟩ nm bs=r) (hq:firstE ⟨fs,room,fuse,down⟩ nm nm=0) (hq2:appE ⟨fs,room,fuse,down⟩ nm bs=6) (hq3:(used fs:Int)+(bs.length:Int)≤room∧look nm fs=none∧fs.length=64) :
  Calls Try.prog 32 #[.agg #[.slice A n c,.int .i64 room,.int .i64 fuse,.bool down],.string nm,.slice Ab nb cb] w (RetOp S w r):=by
 have HCP:=Lib.hid (dcopy_fr A n c room fuse down fs S w hS hf hn hnc hcm hsh)
 have hus:=used_short hsh
 obtain ⟨y,hy⟩:∃ y,firstE ⟨fs,room,fuse,down⟩ nm nm=y:=⟨_,rfl⟩
 obtain ⟨u,hu⟩:∃ u,used fs=u:=⟨_,rfl⟩
 have HAL:=Lib.hid (allowed_fr n room fuse down nm fs y w hn hr hfu hsh hnm hy)
 have HUS:=Lib.hid (used_fr n room fuse down fs u w hn hsh hu)
 have HN:=Lib.hid hn
 have HU:=Lib.hid hu
 have hu70:u≤70000:=by rw [← hu];exact hus.1
 have hn70:n≤70:=by rw [← hn];exact hus.2
 obtain rfl:0=y:=by rw [← hy,hq]
 have HR2:Hid (r=(⟨fs,room,fuse,down⟩,6)):=Lib.hid (by rw [← hv];exact op_pre hq hq2 (by simp))
 have hrt:=(first_zero.1 hq).1
 have hrow:Row fs:=((right_iff _).1 hrt).2.2.2.2.1
 obtain ⟨p,hp⟩:∃ p,placeN nm fs=p:=⟨_,rfl⟩
 obtain ⟨th,hth⟩:∃ th,(look nm fs).isSome=th:=⟨_,rfl⟩
 have HPL:=Lib.hid (place_fr n nm fs p th w hn hsh hrow hp hth)
 have hz:(u:Int)+(nb:Int)≤room:=by rw [← hu,← hbn];exact hq3.1
 have hzd:decide (room < (u:Int)+(nb:Int))=false:=decide_eq_false (by omega)
 obtain rfl:false=th:=by rw [← hth,hq3.2.1];rfl
 have h64:((n:Int) == 64)=true:=by have:=hq3.2.2;rw [hn] at this;simp;omega
 have hwr:IntKind.i64.wrap ((u:Int)+(nb:Int))=(u:Int)+(nb:Int):=by rw [IntKind.wrap_i64];omega
 clear hf hn hnc hcm hsh hv hS hb hbn hbc hbm hy hu hq hq2 hq3 hus hrt hrow hp hth
 go_enter Try.func32,Try.ntmps32
 go_wp2_with (first
  |((with_reducible refine HCP.out.mono ?_);rintro e w1 ⟨A1,c1,S1,rfl,HO1,HAP,HS1,F1⟩;obtain ⟨b0,b1,b2,b3,q0,q1,q2,q3,bf0,bf1,bf2,bf3,qf0,qf1,qf2,qf3⟩:=F1.out.cells;have F2:=Lib.hid (F1.out.setBox (.slice A1 n c1) (.int .i64 room) (.int .i64 fuse) (.bool down)))
  |((with_reducible refine (HAL.out _ _ _ _ _ _ _ _ _ _ _ _ _ F2.out HO1.out HS1.out).mono ?_);rintro e wa ⟨rfl,hga⟩;have Fa:=Lib.hid (F2.out.below hga);obtain ⟨ca0,ca1,ca2,ca3,caq0,caq1,caq2,caq3,caf0,caf1,caf2,caf3,cag0,cag1,cag2,cag3⟩:=Fa.out.cells)
  |((with_reducible refine (HPL.out _ _ _ _ _ _ _ _ _ _ _ _ _ Fa.out HO1.out HS1.out).mono ?_);rintro e w2 ⟨rfl,hg2⟩;have F3:=Lib.hid (Fa.out.below hg2);obtain ⟨cb0,cb1,cb2,cb3,cbq0,cbq1,cbq2,cbq3,cbf0,cbf1,cbf2,cbf3,cbg0,cbg1,cbg2,cbg3⟩:=F3.out.cells))
 go_region_held3 (fun w'=>w'.cell? ⟨w.heap.size,0,none⟩=some (.slice A1 n c1)∧w'.cell? ⟨w.heap.size,1,none⟩=some (.int .i64 room)∧w'.cell? ⟨w.heap.size,2,none⟩=some (.int .i64 fuse)∧w'.cell? ⟨w.heap.size,3,none⟩=some (.bool down))
  (first | exact ⟨cb0,cb1,cb2,cb3⟩ | exact ⟨cc0,cc1,cc2,cc3⟩)
  (first
  |(go_at_call 52;refine Calls.mono (HUS.out _ _ _ _ _ _ _ _ _ _ _ _ _ F3.out.drew HO1.out HS1.out) ?_;rintro e w4 ⟨rfl,hg4⟩;have F4:=Lib.hid (F3.out.drew.below hg4);obtain ⟨cc0,cc1,cc2,cc3,ccq0,ccq1,ccq2,ccq3,ccf0,ccf1,ccf2,ccf3,ccg0,ccg1,ccg2,ccg3⟩:=F4.out.cells))
 all_goals
  go_wp2
  refine bodyPost_ret (v:=.tuple #[.agg #[.slice A1 n c1,.int .i64 room,.int .i64 fuse,.bool down],.int .i64 6]) (by simp [results,Try.results32,go_sem,ccq0,ccq1,ccq2,ccq3]) rfl ?_
  rw [HR2.out]
  have F9:=F4.out.setRes (.slice A1 n c1) (.int .i64 room) (.int .i64 fuse) (.bool down)
  exact F9.ret (F9.own HO1.out (Nat.le_refl _) HS1.out) (by omega) (fun b hb=>by have:=HS1.out b hb;have:=F9.size;omega) _ _ _ _
end Go.Proofs.Ytlipgnenbdchmaa.disk
end
section
namespace Go.Proofs.Ytlipgnenbdchmaa.disk
set_option maxRecDepth 20000
open Go.RowKit
theorem run_append_data (W:World) (A:Option Addr) (n c:Nat) (bs0:List Nat) (Ab:Option Addr) (nb cb:Nat) (bs:List Nat) (base B:Nat) (ho:OwnBys W base 5 A n c bs0) (hb:Bys W B Ab bs) (hbn:bs.length=nb) (hl:n+nb≤200000) (hbase:base≤W.heap.size) :
  ∃ A' c' W',(Builtin.append_ #[27,27] 27 #[.slice A n c,.slice Ab nb cb]).run Try.prog W = .ok (.slice A' (n+nb) c') W'∧OwnBys W' base 5 A' (n+nb) c' (bs0++bs)∧W.grownBy W' (Value.slice A n c).ownBlock ∧
   ((Value.slice A' (n+nb) c').ownBlock=(Value.slice A n c).ownBlock∨(Value.slice A' (n+nb) c').ownBlock=some W.heap.size):=by
 have hinfo:(Try.prog.info? 5).map (fun i=>(i.zero,i.size,i.bytes))=some (some (.int .u8 0),1,1):=by kernel_rfl
 obtain ⟨A',c',W',h1,h2,h3,h4⟩:=run_append_ints (P:=Try.prog) (w:=W) base 27 27 5 .u8 1 Try.underlying27 hinfo (A:=A) (n:=n) (c:=c) (xs:=toI bs0) ho (B:=B) (A2:=Ab) (m:=nb) (ys:=toI bs) hb (by rw [toI_len];exact hbn) (c2:=cb) (by unfold maxLen;omega) (by omega) hbase
 exact ⟨A',c',W',h1,by unfold OwnBys;rw [toI_append];exact h2,h3,h4⟩
theorem own_data {W W7:World} {base g p n c nd cd n7 c7:Nat} {T T8:TypeId} {S:Nat→Prop} {fs:List FileD} {cur:Array Value} {f:FileD} {Ad A7:Option Addr} {bs7:List Nat} (hlen:fs.length=n) (hnc:n≤c) (hcm:c≤9223372036854775807) (hbg:base≤g) (hgW:g < W.heap.size) (hE:W.heap[g]?=some (.cells cur T (0,0))) (hcs:cur.size=c * 3)
  (hfp:fs[p]?=some f) (hself:FileCells cur p f (.slice Ad nd cd)) (hoth:∀ (j:Nat) f',j≠p→fs[j]?=some f'→∃ v,FileCells cur j f' v∧rdData W S v f'.data) (hS:∀ b,S b→base≤b∧b < W.heap.size∧b≠g∧(Value.slice Ad nd cd).ownBlock≠some b)
  (hgr:W.grownBy W7 (Value.slice Ad nd cd).ownBlock) (hog:(Value.slice Ad nd cd).ownBlock≠some g) (ho7:OwnBys W7 base T8 A7 n7 c7 bs7) (hob:(Value.slice A7 n7 c7).ownBlock=(Value.slice Ad nd cd).ownBlock∨(Value.slice A7 n7 c7).ownBlock=some W.heap.size) :
  (W7.setCell ⟨g,p * 3+1,none⟩ (.slice A7 n7 c7)).heap[g]?=some (.cells (cur.setIfInBounds (p * 3+1) (.slice A7 n7 c7)) T (0,0)) ∧
  OwnF (W7.setCell ⟨g,p * 3+1,none⟩ (.slice A7 n7 c7)) base T (fun b=>base≤b∧b < W7.heap.size∧b≠g) (some ⟨g,0,none⟩) n c (fs.set p { f with data:=bs7 }):=by
 have hE7:=heap_setCell_same W7 g (p * 3+1) _ _ (.slice A7 n7 c7) ((hgr.block g hgW (fun e=>hog e.symm)).trans hE)
 have hpl:=(List.getElem?_eq_some_iff.1 hfp).1
 have hcap:=OwnInts.cap ho7
 refine ⟨hE7,by rw [List.length_set];exact hlen,hnc,by unfold maxLen;omega,.inr ⟨g,_,rfl,hbg,hE7,by simpa using hcs,fun h=>h.2.2 rfl,fun j f' hj=>?_⟩⟩
 rw [List.getElem?_set] at hj
 by_cases e:p=j
 ·subst e
  rw [if_pos rfl,if_pos hpl] at hj
  injection hj with hj
  subst hj
  obtain ⟨s0,s1,s2,s3,s4⟩:=hself
  refine ⟨.slice A7 n7 c7,⟨by rw [set_cell _ (by omega)];exact s0,set_cell_self _ (by omega),by rw [set_cell _ (by omega)];exact s2,s3,s4⟩,A7,n7,c7,rfl,?_,OwnBys.len ho7,hcap.1,hcap.2⟩
  have hng:∀ b,(Value.slice A7 n7 c7).ownBlock=some b→b≠g:=fun b hb e=>by
   subst e
   rcases hob with h | h
   ·exact hog (h.symm.trans hb)
   ·rw [hb] at h;injection h with h;omega
  exact IntsIn.keep (OwnInts.owned ho7) (fun b o hb=>World.cell?_of_block (Below.heap_setCell _ _ _ _ (hng b hb))) (fun b hb=>⟨(OwnBys.block ho7 b hb).1,(OwnBys.block ho7 b hb).2,hng b hb⟩)
 ·rw [if_neg e] at hj
  obtain ⟨v,⟨s0,s1,s2,s3⟩,hd⟩:=hoth j f' (fun e2=>e e2.symm) hj
  refine ⟨v,⟨by rw [set_cell _ (by omega)];exact s0,by rw [set_cell _ (by omega)];exact s1,by rw [set_cell _ (by omega)];exact s2,s3⟩,hd.keep (fun b o hb=>World.cell?_of_block ?_) (fun b hb=>?_)⟩
  ·have h:=hS b hb
   exact (Below.heap_setCell _ _ _ _ h.2.2.1).trans (hgr.block b h.2.1 (fun e=>h.2.2.2 e.symm))
  ·have h:=hS b hb
   exact ⟨h.1,Nat.lt_of_lt_of_le h.2.1 hgr.size,h.2.2.1⟩
theorem below_grown {B:Nat} {w0 W W7:World} {row:Option Nat} (hb:Below B w0 W) (hgr:W.grownBy W7 row) (hB:B≤W.heap.size) (hr:∀ b,row=some b→B≤b):Below B w0 W7:=hb.grown hgr hB hr
end Go.Proofs.Ytlipgnenbdchmaa.disk
end
