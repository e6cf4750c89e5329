/-
  DiskRef12c
-/
import Derived.Test.YtlipgnenbdchmaaMsg49
import Derived.Test.YtlipgnenbdchmaaMsg50
set_option linter.unusedVariables false
set_option linter.unusedSimpArgs false
namespace Go.Proofs.Ytlipgnenbdchmaa.disk
set_option maxRecDepth 20000
open Go.RowKit
attribute [local go_sem] undef
set_option maxHeartbeats 20000000 in
theorem rappend (A:Option Addr) (n c:Nat) (room fuse:Int) (down:Bool) (nm:ByteArray) (Ab:Option Addr) (nb cb:Nat) (bs:List Nat) (fs:List FileD) (S:Nat→Prop) (w:World) (hS:∀ b,S b→b < w.heap.size) (hf:FilesIn w S A fs) (hn:fs.length=n) (hc:n≤1000000) (hnc:n≤c) (hcm:c≤maxLen) (hr:inI room) (hfu:inI fuse) (ha:nm.size≤maxLen) (hbs:BysIn w S Ab bs) (hbn:bs.length=nb) (hbm:nb≤100000) (hu:used fs≤100000) (hlen:∀ f ∈ fs,f.data.length≤100000) :
  Calls Try.prog 37 #[.agg #[.slice A n c,.int .i64 room,.int .i64 fuse,.bool down],.string nm,.slice Ab nb cb] w (RetOp S w (appendD ⟨fs,room,fuse,down⟩ nm bs)):=by
 by_cases hx0:firstE ⟨fs,room,fuse,down⟩ nm nm=0
 ·rcases findI_look nm fs with ⟨g1,g2⟩ | ⟨k,f,g1,g2,g3⟩
  ·exact rappend_none A n c room fuse down nm Ab nb cb bs fs S w hS hf hn hc hnc hcm hr hfu ha hbs hbn hbm hu hlen hx0 g1 g2
  ·exact rappend_found A n c room fuse down nm Ab nb cb bs fs S w hS hf hn hc hnc hcm hr hfu ha hbs hbn hbm hu hlen hx0 k f g1 g2 g3
 have HN:Hid (fs.length=n):=Lib.hid hn
 have HC:Hid (n≤maxLen):=Lib.hid (by unfold maxLen;omega)
 have HNC:=Lib.hid hnc
 have HCM:=Lib.hid hcm
 have HA:=Lib.hid ha
 have HF:Hid (∀ W,Below w.heap.size w W→Files W w.heap.size A fs):=Lib.hid (fun W h=>hf.files hS h)
 have HFI:Hid (∀ W,Below w.heap.size w W→FilesIn W S A fs):=Lib.hid (fun W h=>hf.below hS h)
 clear hn ha hnc hcm
 have hw0:∀ o1 o2:Obj,Below w.heap.size w ((w.alloc o1).alloc o2):=fun o1 o2=>((Below.refl _ _).alloc (Nat.le_refl _) o1).alloc (by simp) o2
 have HW0:=Lib.hid hw0
 clear hw0
 have K0:Hid (((w.alloc (.cells #[.slice A n c,.int .i64 room,.int .i64 fuse,.bool down] 24)).alloc (.cells #[.slice none 0 0,.int .i64 0,.int .i64 0,.bool false] 24)).heap[w.heap.size]?=some (.cells #[.slice A n c,.int .i64 room,.int .i64 fuse,.bool down] 24 (0,0))):=Lib.hid (by
  rw [Below.heap_alloc _ _ _ (by simp)];exact heap_alloc_new w _)
 have K1:Hid (((w.alloc (.cells #[.slice A n c,.int .i64 room,.int .i64 fuse,.bool down] 24)).alloc (.cells #[.slice none 0 0,.int .i64 0,.int .i64 0,.bool false] 24)).heap[w.heap.size+1]?=some (.cells #[.slice none 0 0,.int .i64 0,.int .i64 0,.bool false] 24 (0,0))):=Lib.hid (by
  simpa using heap_alloc_new (w.alloc (.cells #[.slice A n c,.int .i64 room,.int .i64 fuse,.bool down] 24)) (.cells #[.slice none 0 0,.int .i64 0,.int .i64 0,.bool false] 24))
 obtain ⟨x,hx⟩:∃ x,Hid (firstE ⟨fs,room,fuse,down⟩ nm nm=x):=⟨_,Lib.hid rfl⟩
 rw [hx.out] at hx0
 have HR:Hid (appendD ⟨fs,room,fuse,down⟩ nm bs=(⟨fs,room,fuse,down⟩,x)):=Lib.hid (op_first hx.out hx0)
 have hx1:(x != 0)=true:=by simpa using hx0
 clear hx0
 go_enter Try.func37,Try.ntmps37
 go_wp2_with ((with_reducible refine (rfirst_is _ _ _ w.heap.size _ _ _ fs _ _ _ _ (by simp<;>omega) (HF.out _ (HW0.out _ _)) HN.out HC.out hr hfu HA.out HA.out hx.out).mono ?_);rintro e w1 ⟨rfl,hg1⟩;have hgw1:=(HW0.out _ _).trans (hg1.mono (by simp<;>omega));have hs1:w.heap.size+2≤w1.heap.size:=(by have:=hg1.size;simp at this;omega);have hl1:w.heap.size < w1.heap.size:=(by omega);have hm1:w.heap.size+1 < w1.heap.size:=(by omega);have E0_1:=Lib.hid ((hg1.block w.heap.size (by simp<;>omega)).trans K0.out);have E1_1:=Lib.hid ((hg1.block (w.heap.size+1) (by simp<;>omega)).trans K1.out);obtain ⟨x0_1,f0_1⟩:=block_cell E0_1.out 0 _ rfl;obtain ⟨x1_1,f1_1⟩:=block_cell E0_1.out 1 _ rfl;obtain ⟨x2_1,f2_1⟩:=block_cell E0_1.out 2 _ rfl;obtain ⟨x3_1,f3_1⟩:=block_cell E0_1.out 3 _ rfl;obtain ⟨y0_1,g0_1⟩:=block_cell E1_1.out 0 _ rfl;obtain ⟨y1_1,g1_1⟩:=block_cell E1_1.out 1 _ rfl;obtain ⟨y2_1,g2_1⟩:=block_cell E1_1.out 2 _ rfl;obtain ⟨y3_1,g3_1⟩:=block_cell E1_1.out 3 _ rfl)
 refine bodyPost_ret (v:=.tuple #[.agg #[.slice A n c,.int .i64 room,.int .i64 fuse,.bool down],.int .i64 x]) (by simp [results,Try.results37,go_sem,y0_1,y1_1,y2_1,y3_1]) rfl ?_
 rw [HR.out]
 exact ⟨A,n,c,rfl,files_old hf hS (below_set4 hgw1 (by omega) _ _ _ _),HN,HNC.out,HCM.out,below_set4 hgw1 (by omega) _ _ _ _⟩
end Go.Proofs.Ytlipgnenbdchmaa.disk
