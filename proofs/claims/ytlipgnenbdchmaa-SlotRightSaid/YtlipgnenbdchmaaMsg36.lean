/-
  DiskImpl15b, DiskImpl, DiskLaw
-/
import Derived.Test.YtlipgnenbdchmaaMsg33
import Derived.Deep.RegionWith
import Derived.Deep.CutRange
import Derived.IntWalk
import Derived.Test.YtlipgnenbdchmaaMsg34
import Derived.Test.YtlipgnenbdchmaaMsg35
import Derived.Test.YtlipgnenbdchmaaMsg16
import Derived.Test.YtlipgnenbdchmaaMsg27
set_option linter.unusedVariables false
set_option linter.unusedSimpArgs false
section
namespace Go.Proofs.Ytlipgnenbdchmaa.disk
set_option maxRecDepth 20000
open Go.RowKit
attribute [local go_sem] undef
set_option maxHeartbeats 20000000 in
theorem dappend_full1 (A:Option Addr) (n c:Nat) (room fuse:Int) (down:Bool) (nm:ByteArray) (Ab:Option Addr) (nb cb:Nat) (bs:List Nat) (fs:List FileD) (r:DiskD × Int) (S:Nat→Prop) (w:World) (hS:∀ b,S b→b < w.heap.size) (hf:FilesIn w S A fs) (hn:fs.length=n) (hnc:n≤c) (hcm:c≤maxLen) (hr:inI room) (hfu:inI fuse) (hsh:shortB fs=true) (hnm:nm.size≤100) (hb:BysIn w S Ab bs) (hbn:bs.length=nb) (hbc:nb≤cb) (hbm:cb≤maxLen) (hbl:nb≤70000) (hv:appendD ⟨fs,room,fuse,down⟩ nm bs=r) (hq:firstE ⟨fs,room,fuse,down⟩ nm nm=0) (hq2:appE ⟨fs,room,fuse,down⟩ nm bs=6) (hq3:room < (used fs:Int)+(bs.length:Int)) :
  Calls Try.prog 32 #[.agg #[.slice A n c,.int .i64 room,.int .i64 fuse,.bool down],.string nm,.slice Ab nb cb] w (RetOp S w r):=by
 have HCP:=Lib.hid (dcopy_fr A n c room fuse down fs S w hS hf hn hnc hcm hsh)
 have hus:=used_short hsh
 obtain ⟨y,hy⟩:∃ y,firstE ⟨fs,room,fuse,down⟩ nm nm=y:=⟨_,rfl⟩
 obtain ⟨u,hu⟩:∃ u,used fs=u:=⟨_,rfl⟩
 have HAL:=Lib.hid (allowed_fr n room fuse down nm fs y w hn hr hfu hsh hnm hy)
 have HUS:=Lib.hid (used_fr n room fuse down fs u w hn hsh hu)
 have HN:=Lib.hid hn
 have HU:=Lib.hid hu
 have hu70:u≤70000:=by rw [← hu];exact hus.1
 have hn70:n≤70:=by rw [← hn];exact hus.2
 obtain rfl:0=y:=by rw [← hy,hq]
 have HR2:Hid (r=(⟨fs,room,fuse,down⟩,6)):=Lib.hid (by rw [← hv];exact op_pre hq hq2 (by simp))
 have hrt:=(first_zero.1 hq).1
 have hrow:Row fs:=((right_iff _).1 hrt).2.2.2.2.1
 obtain ⟨p,hp⟩:∃ p,placeN nm fs=p:=⟨_,rfl⟩
 obtain ⟨th,hth⟩:∃ th,(look nm fs).isSome=th:=⟨_,rfl⟩
 have HPL:=Lib.hid (place_fr n nm fs p th w hn hsh hrow hp hth)
 have hz:room < (u:Int)+(nb:Int):=by rw [← hu,← hbn];exact hq3
 have hzd:decide (room < (u:Int)+(nb:Int))=true:=decide_eq_true hz
 have hwr:IntKind.i64.wrap ((u:Int)+(nb:Int))=(u:Int)+(nb:Int):=by rw [IntKind.wrap_i64];omega
 clear hf hn hnc hcm hsh hv hS hb hbn hbc hbm hy hu hq hq2 hq3 hus hrt hrow hp hth
 go_enter Try.func32,Try.ntmps32
 go_wp2_with (first
  |((with_reducible refine HCP.out.mono ?_);rintro e w1 ⟨A1,c1,S1,rfl,HO1,HAP,HS1,F1⟩;obtain ⟨b0,b1,b2,b3,q0,q1,q2,q3,bf0,bf1,bf2,bf3,qf0,qf1,qf2,qf3⟩:=F1.out.cells;have F2:=Lib.hid (F1.out.setBox (.slice A1 n c1) (.int .i64 room) (.int .i64 fuse) (.bool down)))
  |((with_reducible refine (HAL.out _ _ _ _ _ _ _ _ _ _ _ _ _ F2.out HO1.out HS1.out).mono ?_);rintro e wa ⟨rfl,hga⟩;have Fa:=Lib.hid (F2.out.below hga);obtain ⟨ca0,ca1,ca2,ca3,caq0,caq1,caq2,caq3,caf0,caf1,caf2,caf3,cag0,cag1,cag2,cag3⟩:=Fa.out.cells)
  |((with_reducible refine (HPL.out _ _ _ _ _ _ _ _ _ _ _ _ _ Fa.out HO1.out HS1.out).mono ?_);rintro e w2 ⟨rfl,hg2⟩;have F3:=Lib.hid (Fa.out.below hg2);obtain ⟨cb0,cb1,cb2,cb3,cbq0,cbq1,cbq2,cbq3,cbf0,cbf1,cbf2,cbf3,cbg0,cbg1,cbg2,cbg3⟩:=F3.out.cells))
 first
  |go_region_with (go_at_call 52;refine Calls.mono (HUS.out _ _ _ _ _ _ _ _ _ _ _ _ _ F3.out.drew HO1.out HS1.out) ?_;rintro e w4 ⟨rfl,hg4⟩;have F4:=Lib.hid (F3.out.drew.below hg4);obtain ⟨cc0,cc1,cc2,cc3,ccq0,ccq1,ccq2,ccq3,ccf0,ccf1,ccf2,ccf3,ccg0,ccg1,ccg2,ccg3⟩:=F4.out.cells)
  |fail
 all_goals
  go_wp2
  refine bodyPost_ret (v:=.tuple #[.agg #[.slice A1 n c1,.int .i64 room,.int .i64 fuse,.bool down],.int .i64 6]) (by simp [results,Try.results32,go_sem,ccq0,ccq1,ccq2,ccq3]) rfl ?_
  rw [HR2.out]
  have F9:=F4.out.setRes (.slice A1 n c1) (.int .i64 room) (.int .i64 fuse) (.bool down)
  exact F9.ret (F9.own HO1.out (Nat.le_refl _) HS1.out) (by omega) (fun b hb=>by have:=HS1.out b hb;have:=F9.size;omega) _ _ _ _
end Go.Proofs.Ytlipgnenbdchmaa.disk
end
section
namespace Go.Proofs.Ytlipgnenbdchmaa.disk
set_option maxRecDepth 20000
open Go.RowKit
theorem dappend (A:Option Addr) (n c:Nat) (room fuse:Int) (down:Bool) (nm:ByteArray) (Ab:Option Addr) (nb cb:Nat) (bs:List Nat) (fs:List FileD) (r:DiskD × Int) (S:Nat→Prop) (w:World) (hS:∀ b,S b→b < w.heap.size) (hf:FilesIn w S A fs) (hn:fs.length=n) (hnc:n≤c) (hcm:c≤maxLen) (hr:inI room) (hfu:inI fuse) (hsh:shortB fs=true) (hnm:nm.size≤100) (hb:BysIn w S Ab bs) (hbn:bs.length=nb) (hbc:nb≤cb) (hbm:cb≤maxLen) (hbl:nb≤70000) (hv:appendD ⟨fs,room,fuse,down⟩ nm bs=r) :
  Calls Try.prog 32 #[.agg #[.slice A n c,.int .i64 room,.int .i64 fuse,.bool down],.string nm,.slice Ab nb cb] w (RetOp S w r):=by
 by_cases hq:firstE ⟨fs,room,fuse,down⟩ nm nm=0
 ·by_cases hq2:appE ⟨fs,room,fuse,down⟩ nm bs=0
  ·obtain ⟨f2,dn2,x2,hsp⟩:∃ f2 dn2 x2,spentD fuse down=((f2,dn2),x2):=⟨_,_,_,rfl⟩
   cases hl:look nm fs with
   |none=>exact dappend_new A n c room fuse down nm Ab nb cb bs fs r S w hS hf hn hnc hcm hr hfu hsh hnm hb hbn hbc hbm hbl hv hq hq2 f2 dn2 x2 hsp hl
   |some f=>exact dappend_there A n c room fuse down nm Ab nb cb bs fs r S w hS hf hn hnc hcm hr hfu hsh hnm hb hbn hbc hbm hbl hv hq hq2 f2 dn2 x2 hsp f hl
  ·have h6:appE ⟨fs,room,fuse,down⟩ nm bs=6:=by
    unfold appE at hq2 ⊢
    split
    ·rfl
    ·rename_i h;rw [if_neg h] at hq2;exact absurd rfl hq2
   by_cases h7:room < (used fs:Int)+(bs.length:Int)
   ·exact dappend_full1 A n c room fuse down nm Ab nb cb bs fs r S w hS hf hn hnc hcm hr hfu hsh hnm hb hbn hbc hbm hbl hv hq h6 h7
   ·refine dappend_full2 A n c room fuse down nm Ab nb cb bs fs r S w hS hf hn hnc hcm hr hfu hsh hnm hb hbn hbc hbm hbl hv hq h6 ?_
    have h64:=((right_iff _).1 (first_zero.1 hq).1).2.2.1
    unfold appE at h6
    split at h6
    ·rename_i h
     rcases h with h | ⟨h,h'⟩
     ·simp only at h;omega
     ·simp only at h h' h64
      exact ⟨by omega,h,by omega⟩
    ·cases h6
 ·exact dappend_first A n c room fuse down nm Ab nb cb bs fs r S w hS hf hn hnc hcm hr hfu hsh hnm hb hbn hbc hbm hbl hv hq
end Go.Proofs.Ytlipgnenbdchmaa.disk
end
section
namespace Go.Proofs.Ytlipgnenbdchmaa.disk
set_option maxRecDepth 20000
open Go.RowKit
theorem short_iff {fs:List FileD} : shortB fs=true ↔ fs.length≤70∧(∀ f ∈ fs,f.data.length≤70000∧f.name.size≤100)∧used fs≤70000:=by
 unfold shortB shortFile
 simp only [Bool.and_eq_true,decide_eq_true_eq,List.all_eq_true,and_assoc]
theorem named_size {s:ByteArray} (h:named s=true):s.size≤16:=by
 unfold named at h
 simp only [Bool.and_eq_true,decide_eq_true_eq] at h
 exact h.2
theorem ok_short {room:Int} {fs:List FileD} (h:FilesOk room fs) (hr:room≤65536):shortB fs=true:=by
 obtain ⟨h1,h2,h3,h4⟩:=h
 rw [short_iff]
 refine ⟨by omega,fun f hf=>?_,by omega⟩
 have:=(file_iff f).1 (h2 f hf)
 have:=named_size this.1
 exact ⟨by omega,by omega⟩
theorem right_short {d:DiskD} (h:rightB d=true):shortB d.files=true:=ok_short (right_files h) ((right_iff d).1 h).1.2
end Go.Proofs.Ytlipgnenbdchmaa.disk
end
