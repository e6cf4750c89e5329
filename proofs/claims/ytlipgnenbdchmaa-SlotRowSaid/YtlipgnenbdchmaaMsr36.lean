/-
  DiskImpl15
-/
import Derived.Test.YtlipgnenbdchmaaMsr35
import Derived.Deep.RegionHeld3
set_option linter.unusedVariables false
set_option linter.unusedSimpArgs false
namespace Go.Proofs.Ytlipgnenbdchmaa.disk
set_option maxRecDepth 20000
open Go.RowKit
theorem step_append_runI {P:Program} {ops:Array Oper} {o:Oper} {a:Act} {w:World} {K:Act→World→Prop} {Q:Exit→Act→World→Prop} {E:Prop}
  (hg:o.guard=none) (s x:Operand) (t:TypeId) (hop:o.op=Op.call { callee:=Callee.builtin Builtin.append,args:=#[s,x],argTypes:=#[t,t] })
  (v u:Value) (hs:a.eval s=v) (hx:a.eval x=u) {v' : Value} {w' : World} (hr:(Builtin.append_ #[t,t] o.type #[v,u]).run P w = .ok v' w') (hK:K (a.put o.dst v') w') :
  if Region.wanted o (yielded ops a.tmps)=true then Oper.wp P o a w K Q else E:=by
 have hw:Region.wanted o (yielded ops a.tmps)=true:=by simp [Region.wanted,hg]
 rw [if_pos hw]
 unfold Oper.wp
 simp [execOp,hop,resolve,invoke,builtin,hs,hx,hr,Result.andThen]
 exact hK
theorem used_fr (n:Nat) (room fuse:Int) (down:Bool) (fs:List FileD) (u:Nat) (w:World) (hn:fs.length=n) (hsh:shortB fs=true) (hu:used fs=u) :
  ∀ (A1:Option Addr) (c1:Nat) (S1:Nat→Prop) (w1 W:World) (d0 d1 d2 d3 r0 r1 r2 r3:Value),DFr 24 w w1 W d0 d1 d2 d3 r0 r1 r2 r3→OwnF w1 (w.heap.size+2) 51 S1 A1 n c1 fs→(∀ b,S1 b→w.heap.size+2≤b∧b < w1.heap.size) →
   Calls Try.prog 52 #[.agg #[.slice A1 n c1,.int .i64 room,.int .i64 fuse,.bool down]] W fun e w'=>e = .returned (.int .i64 (u:Nat))∧Below W.heap.size W w' :=
 fun A1 c1 S1 w1 W d0 d1 d2 d3 r0 r1 r2 r3 h ho hs=>dused0 A1 n c1 room fuse down fs u (Lt W.heap.size) W (fun _ h=>h) (fr_reads h ho hs) hn (by have:=ho.cap;omega) (by have:=(used_short hsh).1;omega) hu
theorem place_fr (n:Nat) (nm:ByteArray) (fs:List FileD) (p:Nat) (b:Bool) (w:World) (hn:fs.length=n) (hsh:shortB fs=true) (hrow:Row fs) (hp:placeN nm fs=p) (hb:(look nm fs).isSome=b) :
  ∀ (A1:Option Addr) (c1:Nat) (S1:Nat→Prop) (w1 W:World) (d0 d1 d2 d3 r0 r1 r2 r3:Value),DFr 24 w w1 W d0 d1 d2 d3 r0 r1 r2 r3→OwnF w1 (w.heap.size+2) 51 S1 A1 n c1 fs→(∀ b,S1 b→w.heap.size+2≤b∧b < w1.heap.size) →
   Calls Try.prog 51 #[.slice A1 n c1,.string nm] W fun e w'=>e = .returned (.tuple #[.int .i64 (p:Nat),.bool b])∧Below W.heap.size W w' :=
 fun A1 c1 S1 w1 W d0 d1 d2 d3 r0 r1 r2 r3 h ho hs=>dplace A1 n c1 nm fs p b (Lt W.heap.size) W (fun _ h=>h) (fr_reads h ho hs) hn (by have:=(used_short hsh).2;omega) hrow hp hb
theorem op_app (d:DiskD) (nm:ByteArray) (b:List Nat) :
  (firstE d nm nm≠0∧appendD d nm b=(d,firstE d nm nm)) ∨
  (firstE d nm nm=0∧rightB d=true ∧ -1≤d.fuse ∧
   ((appE d nm b=6∧appendD d nm b=(d,6)) ∨
    ∃ f2 dn2 x2,appE d nm b=0∧spentD d.fuse d.down=((f2,dn2),x2)∧appendD d nm b=(⟨appF d.files nm b,d.room,f2,dn2⟩,x2))):=by
 by_cases h:firstE d nm nm=0
 ·have hr:=(first_zero.1 h).1
  have hfz:=((right_iff d).1 hr).2.1
  refine .inr ⟨h,hr,hfz,?_⟩
  have h6:appE d nm b=6∨appE d nm b=0:=by unfold appE;split<;>simp
  rcases h6 with h6 | h6
  ·exact .inl ⟨h6,op_pre h h6 (by simp)⟩
  ·by_cases hz:d.fuse=0
   ·exact .inr ⟨0,true,9,h6,by unfold spentD;rw [if_pos hz],op_down h h6 hz⟩
   ·refine .inr ⟨if 0 < d.fuse then d.fuse - 1 else d.fuse,d.down,0,h6,?_,op_done h h6 hz rfl⟩
    unfold spentD
    rw [if_neg hz]
    by_cases h3:d.fuse = -1
    ·rw [if_pos h3,h3];rfl
    ·rw [if_neg h3,if_pos (by omega)]
 ·exact .inl ⟨h,op_first rfl h⟩
set_option maxHeartbeats 8000000 in
theorem dappend_first (A:Option Addr) (n c:Nat) (room fuse:Int) (down:Bool) (nm:ByteArray) (Ab:Option Addr) (nb cb:Nat) (bs:List Nat) (fs:List FileD) (r:DiskD × Int) (S:Nat→Prop) (w:World) (hS:∀ b,S b→b < w.heap.size) (hf:FilesIn w S A fs) (hn:fs.length=n) (hnc:n≤c) (hcm:c≤maxLen) (hr:inI room) (hfu:inI fuse) (hsh:shortB fs=true) (hnm:nm.size≤100) (hb:BysIn w S Ab bs) (hbn:bs.length=nb) (hbc:nb≤cb) (hbm:cb≤maxLen) (hbl:nb≤70000) (hv:appendD ⟨fs,room,fuse,down⟩ nm bs=r) (hq:firstE ⟨fs,room,fuse,down⟩ nm nm≠0) :
  Calls Try.prog 32 #[.agg #[.slice A n c,.int .i64 room,.int .i64 fuse,.bool down],.string nm,.slice Ab nb cb] w (RetOp S w r):=by
 have HCP:=Lib.hid (dcopy_fr A n c room fuse down fs S w hS hf hn hnc hcm hsh)
 have hus:=used_short hsh
 obtain ⟨y,hy⟩:∃ y,firstE ⟨fs,room,fuse,down⟩ nm nm=y:=⟨_,rfl⟩
 obtain ⟨u,hu⟩:∃ u,used fs=u:=⟨_,rfl⟩
 have HAL:=Lib.hid (allowed_fr n room fuse down nm fs y w hn hr hfu hsh hnm hy)
 have HUS:=Lib.hid (used_fr n room fuse down fs u w hn hsh hu)
 have HN:=Lib.hid hn
 have HU:=Lib.hid hu
 have hu70:u≤70000:=by rw [← hu];exact hus.1
 have hn70:n≤70:=by rw [← hn];exact hus.2
 have HR2:Hid (r=(⟨fs,room,fuse,down⟩,y)):=Lib.hid (by rw [← hv,← hy];exact op_first rfl hq)
 have hy1:(y != 0)=true:=by rw [← hy];simpa using hq
 clear hf hn hnc hcm hsh hv hS hb hbn hbc hbm hy hu hq hus
 go_enter Try.func32,Try.ntmps32
 go_wp2_with (first
  |((with_reducible refine HCP.out.mono ?_);rintro e w1 ⟨A1,c1,S1,rfl,HO1,HAP,HS1,F1⟩;obtain ⟨b0,b1,b2,b3,q0,q1,q2,q3,bf0,bf1,bf2,bf3,qf0,qf1,qf2,qf3⟩:=F1.out.cells;have F2:=Lib.hid (F1.out.setBox (.slice A1 n c1) (.int .i64 room) (.int .i64 fuse) (.bool down)))
  |((with_reducible refine (HAL.out _ _ _ _ _ _ _ _ _ _ _ _ _ F2.out HO1.out HS1.out).mono ?_);rintro e wa ⟨rfl,hga⟩;have Fa:=Lib.hid (F2.out.below hga);obtain ⟨ca0,ca1,ca2,ca3,caq0,caq1,caq2,caq3,caf0,caf1,caf2,caf3,cag0,cag1,cag2,cag3⟩:=Fa.out.cells))
 refine bodyPost_ret (v:=.tuple #[.agg #[.slice A1 n c1,.int .i64 room,.int .i64 fuse,.bool down],.int .i64 y]) (by simp [results,Try.results32,go_sem,caq0,caq1,caq2,caq3]) rfl ?_
 rw [HR2.out]
 have F9:=Fa.out.setRes (.slice A1 n c1) (.int .i64 room) (.int .i64 fuse) (.bool down)
 exact F9.ret (F9.own HO1.out (Nat.le_refl _) HS1.out) (by omega) (fun b hb=>by have:=HS1.out b hb;have:=F9.size;omega) _ _ _ _
set_option maxHeartbeats 8000000 in
theorem dappend_full2 (A:Option Addr) (n c:Nat) (room fuse:Int) (down:Bool) (nm:ByteArray) (Ab:Option Addr) (nb cb:Nat) (bs:List Nat) (fs:List FileD) (r:DiskD × Int) (S:Nat→Prop) (w:World) (hS:∀ b,S b→b < w.heap.size) (hf:FilesIn w S A fs) (hn:fs.length=n) (hnc:n≤c) (hcm:c≤maxLen) (hr:inI room) (hfu:inI fuse) (hsh:shortB fs=true) (hnm:nm.size≤100) (hb:BysIn w S Ab bs) (hbn:bs.length=nb) (hbc:nb≤cb) (hbm:cb≤maxLen) (hbl:nb≤70000) (hv:appendD ⟨fs,room,fuse,down⟩ nm bs=r) (hq:firstE ⟨fs,room,fuse,down⟩ nm nm=0) (hq2:appE ⟨fs,room,fuse,down⟩ nm bs=6) (hq3:(used fs:Int)+(bs.length:Int)≤room∧look nm fs=none∧fs.length=64) :
  Calls Try.prog 32 #[.agg #[.slice A n c,.int .i64 room,.int .i64 fuse,.bool down],.string nm,.slice Ab nb cb] w (RetOp S w r):=by
 have HCP:=Lib.hid (dcopy_fr A n c room fuse down fs S w hS hf hn hnc hcm hsh)
 have hus:=used_short hsh
 obtain ⟨y,hy⟩:∃ y,firstE ⟨fs,room,fuse,down⟩ nm nm=y:=⟨_,rfl⟩
 obtain ⟨u,hu⟩:∃ u,used fs=u:=⟨_,rfl⟩
 have HAL:=Lib.hid (allowed_fr n room fuse down nm fs y w hn hr hfu hsh hnm hy)
 have HUS:=Lib.hid (used_fr n room fuse down fs u w hn hsh hu)
 have HN:=Lib.hid hn
 have HU:=Lib.hid hu
 have hu70:u≤70000:=by rw [← hu];exact hus.1
 have hn70:n≤70:=by rw [← hn];exact hus.2
 obtain rfl:0=y:=by rw [← hy,hq]
 have HR2:Hid (r=(⟨fs,room,fuse,down⟩,6)):=Lib.hid (by rw [← hv];exact op_pre hq hq2 (by simp))
 have hrt:=(first_zero.1 hq).1
 have hrow:Row fs:=((right_iff _).1 hrt).2.2.2.2.1
 obtain ⟨p,hp⟩:∃ p,placeN nm fs=p:=⟨_,rfl⟩
 obtain ⟨th,hth⟩:∃ th,(look nm fs).isSome=th:=⟨_,rfl⟩
 have HPL:=Lib.hid (place_fr n nm fs p th w hn hsh hrow hp hth)
 have hz:(u:Int)+(nb:Int)≤room:=by rw [← hu,← hbn];exact hq3.1
 have hzd:decide (room < (u:Int)+(nb:Int))=false:=decide_eq_false (by omega)
 obtain rfl:false=th:=by rw [← hth,hq3.2.1];rfl
 have h64:((n:Int) == 64)=true:=by have:=hq3.2.2;rw [hn] at this;simp;omega
 have hwr:IntKind.i64.wrap ((u:Int)+(nb:Int))=(u:Int)+(nb:Int):=by rw [IntKind.wrap_i64];omega
 clear hf hn hnc hcm hsh hv hS hb hbn hbc hbm hy hu hq hq2 hq3 hus hrt hrow hp hth
 go_enter Try.func32,Try.ntmps32
 go_wp2_with (first
  |((with_reducible refine HCP.out.mono ?_);rintro e w1 ⟨A1,c1,S1,rfl,HO1,HAP,HS1,F1⟩;obtain ⟨b0,b1,b2,b3,q0,q1,q2,q3,bf0,bf1,bf2,bf3,qf0,qf1,qf2,qf3⟩:=F1.out.cells;have F2:=Lib.hid (F1.out.setBox (.slice A1 n c1) (.int .i64 room) (.int .i64 fuse) (.bool down)))
  |((with_reducible refine (HAL.out _ _ _ _ _ _ _ _ _ _ _ _ _ F2.out HO1.out HS1.out).mono ?_);rintro e wa ⟨rfl,hga⟩;have Fa:=Lib.hid (F2.out.below hga);obtain ⟨ca0,ca1,ca2,ca3,caq0,caq1,caq2,caq3,caf0,caf1,caf2,caf3,cag0,cag1,cag2,cag3⟩:=Fa.out.cells)
  |((with_reducible refine (HPL.out _ _ _ _ _ _ _ _ _ _ _ _ _ Fa.out HO1.out HS1.out).mono ?_);rintro e w2 ⟨rfl,hg2⟩;have F3:=Lib.hid (Fa.out.below hg2);obtain ⟨cb0,cb1,cb2,cb3,cbq0,cbq1,cbq2,cbq3,cbf0,cbf1,cbf2,cbf3,cbg0,cbg1,cbg2,cbg3⟩:=F3.out.cells))
 go_region_held3 (fun w'=>w'.cell? ⟨w.heap.size,0,none⟩=some (.slice A1 n c1)∧w'.cell? ⟨w.heap.size,1,none⟩=some (.int .i64 room)∧w'.cell? ⟨w.heap.size,2,none⟩=some (.int .i64 fuse)∧w'.cell? ⟨w.heap.size,3,none⟩=some (.bool down))
  (first | exact ⟨cb0,cb1,cb2,cb3⟩ | exact ⟨cc0,cc1,cc2,cc3⟩)
  (first
  |(go_at_call 52;refine Calls.mono (HUS.out _ _ _ _ _ _ _ _ _ _ _ _ _ F3.out.drew HO1.out HS1.out) ?_;rintro e w4 ⟨rfl,hg4⟩;have F4:=Lib.hid (F3.out.drew.below hg4);obtain ⟨cc0,cc1,cc2,cc3,ccq0,ccq1,ccq2,ccq3,ccf0,ccf1,ccf2,ccf3,ccg0,ccg1,ccg2,ccg3⟩:=F4.out.cells))
 all_goals
  go_wp2
  refine bodyPost_ret (v:=.tuple #[.agg #[.slice A1 n c1,.int .i64 room,.int .i64 fuse,.bool down],.int .i64 6]) (by simp [results,Try.results32,go_sem,ccq0,ccq1,ccq2,ccq3]) rfl ?_
  rw [HR2.out]
  have F9:=F4.out.setRes (.slice A1 n c1) (.int .i64 room) (.int .i64 fuse) (.bool down)
  exact F9.ret (F9.own HO1.out (Nat.le_refl _) HS1.out) (by omega) (fun b hb=>by have:=HS1.out b hb;have:=F9.size;omega) _ _ _ _
end Go.Proofs.Ytlipgnenbdchmaa.disk
