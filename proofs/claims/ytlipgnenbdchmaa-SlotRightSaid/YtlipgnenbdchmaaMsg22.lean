/-
  DiskImpl2
-/
import Derived.Test.YtlipgnenbdchmaaMsg21
set_option linter.unusedVariables false
set_option linter.unusedSimpArgs false
namespace Go.Proofs.Ytlipgnenbdchmaa.disk
set_option maxRecDepth 20000
open Go.RowKit
theorem dright (A:Option Addr) (n c:Nat) (room fuse:Int) (down:Bool) (fs:List FileD) (v:Bool) (S:Nat→Prop) (w:World) (hS:∀ b,S b→b < w.heap.size) (hf:FilesIn w S A fs) (hn:fs.length=n) (hnc:n≤c) (hcm:c≤maxLen) (hr:inI room) (hfu:inI fuse) (hsh:shortB fs=true) (hv:rightB ⟨fs,room,fuse,down⟩=v) :
  Calls Try.prog 40 #[.agg #[.slice A n c,.int .i64 room,.int .i64 fuse,.bool down]] w fun e w'=>e = .returned (.bool v)∧Below w.heap.size w w' :=
 dright0 A n c room fuse down fs v S w hS hf hn hnc hcm hr hfu (by have:=(used_short hsh).1;omega) hv
theorem size_two (w:World) (o1 o2:Obj):((w.alloc o1).alloc o2).heap.size=w.heap.size+2:=by simp
theorem two_blocks (w:World) (c1 c2:Array Value) (t1 t2:TypeId):((w.alloc (.cells c1 t1)).alloc (.cells c2 t2)).heap[w.heap.size]?=some (.cells c1 t1 (0,0))∧((w.alloc (.cells c1 t1)).alloc (.cells c2 t2)).heap[w.heap.size+1]?=some (.cells c2 t2 (0,0)) :=
 ⟨by rw [Below.heap_alloc _ _ _ (by simp)];exact heap_alloc_new w _,by simpa using heap_alloc_new (w.alloc (.cells c1 t1)) (.cells c2 t2)⟩
theorem one_block (w:World) (c1:Array Value) (t1:TypeId):(w.alloc (.cells c1 t1)).heap[w.heap.size]?=some (.cells c1 t1 (0,0)):=heap_alloc_new w _
theorem dallowed (A:Option Addr) (n c:Nat) (room fuse:Int) (down:Bool) (nm:ByteArray) (fs:List FileD) (x:Int) (S:Nat→Prop) (w:World) (hS:∀ b,S b→b < w.heap.size) (hf:FilesIn w S A fs) (hn:fs.length=n) (hnc:n≤c) (hcm:c≤maxLen) (hr:inI room) (hfu:inI fuse) (hu:used fs≤9223372036854775807) (hnm:nm.size≤maxLen) (hv:firstE ⟨fs,room,fuse,down⟩ nm nm=x) :
  Calls Try.prog 50 #[.agg #[.slice A n c,.int .i64 room,.int .i64 fuse,.bool down],.string nm] w fun e w'=>e = .returned (.int .i64 x)∧Below w.heap.size w w':=by
 obtain ⟨v,hv'⟩:∃ v,rightB ⟨fs,room,fuse,down⟩=v:=⟨_,rfl⟩
 obtain ⟨m,hm'⟩:∃ m,named nm=m:=⟨_,rfl⟩
 have HRI:Hid (∀ o,Calls Try.prog 40 #[.agg #[.slice A n c,.int .i64 room,.int .i64 fuse,.bool down]] (w.alloc o) fun e w'=>e = .returned (.bool v)∧Below (w.alloc o).heap.size (w.alloc o) w') :=
  Lib.hid (fun o=>dright0 A n c room fuse down fs v S _ (fun b hb=>by have:=hS b hb;simp;omega) (hf.below hS ((Below.refl _ _).alloc (Nat.le_refl _) o)) hn hnc hcm hr hfu hu hv')
 have HM:=Lib.hid hm'
 have HX:Hid ((if v then (if down then 9 else if m && m then 0 else 1) else 1)=x):=Lib.hid (by rw [← hv,← hv',← hm'];rfl)
 have hnm':=Lib.hid hnm
 clear hf hv hv' hm' hn hnm
 unfold maxLen at hcm
 have HB:Hid (∀ o,Below w.heap.size w (w.alloc o)):=Lib.hid (fun o=>(Below.refl _ _).alloc (Nat.le_refl _) o)
 have K0:=Lib.hid (one_block w #[.slice A n c,.int .i64 room,.int .i64 fuse,.bool down] 24)
 cases v<;>cases down<;>cases m <;>
  (go_enter Try.func50,Try.ntmps50
   go_wp2_with (first
    |((with_reducible refine (HRI.out _).mono ?_);rintro e w1 ⟨rfl,hg⟩;have hgw:=(HB.out _).trans (hg.mono (by simp));have E0:=Lib.hid ((hg.block w.heap.size (by simp)).trans K0.out);obtain ⟨x3,f3⟩:=block_cell E0.out 3 _ rfl)
    |((with_reducible refine (dnamed_is nm _ _ hnm'.out HM.out).mono ?_);rintro e w' ⟨rfl,rfl⟩))
   go_ret
   exact ⟨reti HX.out,hgw⟩)
end Go.Proofs.Ytlipgnenbdchmaa.disk
