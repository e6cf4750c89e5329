/-
  DiskImpl7, DiskImpl8, DiskImpl9
-/
import Derived.Test.YtalhdalinpdanaaGreatDoorMwl14
import Derived.Test.YtalhdalinpdanaaGreatDoorMwl11
import Derived.StillTailTactics
set_option linter.unusedVariables false
set_option linter.unusedSimpArgs false
section
namespace Go.Proofs.YtalhdalinpdanaaGreatDoor.disk
set_option maxRecDepth 20000
open Go.RowKit
theorem dcopy_fr (A:Option Addr) (n c:Nat) (room fuse:Int) (down:Bool) (fs:List FileD) (S:Nat→Prop) (w:World) (hS:∀ b,S b→b < w.heap.size) (hf:FilesIn w S A fs) (hn:fs.length=n) (hnc:n≤c) (hcm:c≤maxLen) (hsh:shortB fs=true) :
  Calls Tryz.prog 58 #[.agg #[.slice A n c,.int .i64 room,.int .i64 fuse,.bool down]] ((w.alloc (.cells #[.slice A n c,.int .i64 room,.int .i64 fuse,.bool down] 27)).alloc (.cells #[.slice none 0 0,.int .i64 0,.int .i64 0,.bool false] 27)) fun e w1 =>
   ∃ A1 c1,∃ S1:Nat→Prop,e = .returned (.agg #[.slice A1 n c1,.int .i64 room,.int .i64 fuse,.bool down])∧Hid (OwnF w1 (w.heap.size+2) 79 S1 A1 n c1 fs)∧Hid (Apart w1 (w.heap.size+2) 5 S1 A1 fs)∧Hid (∀ b,S1 b→w.heap.size+2≤b∧b < w1.heap.size) ∧
    Hid (DFr 27 w w1 w1 (.slice A n c) (.int .i64 room) (.int .i64 fuse) (.bool down) (.slice none 0 0) (.int .i64 0) (.int .i64 0) (.bool false)):=by
 obtain ⟨k0,k1⟩:=two_blocks w #[.slice A n c,.int .i64 room,.int .i64 fuse,.bool down] #[.slice none 0 0,.int .i64 0,.int .i64 0,.bool false] 27 27
 have hB:∀ o1 o2,Below w.heap.size w ((w.alloc o1).alloc o2):=fun o1 o2=>((Below.refl _ _).alloc (Nat.le_refl _) o1).alloc (by simp) o2
 have hus:=used_short hsh
 have h:=dcopied A n c room fuse down fs S _ (fun b hb=>by have:=hS b hb;rw [size_two];omega) (hf.below hS (hB (.cells #[.slice A n c,.int .i64 room,.int .i64 fuse,.bool down] 27) (.cells #[.slice none 0 0,.int .i64 0,.int .i64 0,.bool false] 27))) hn hnc hcm (by omega) (fun f hf=>by have:=used_mem hf;omega)
 refine h.mono fun e w1 ⟨A1,c1,S1,h1,h2,h3,h4,h5⟩=>?_
 rw [size_two] at h2 h3
 have h4':=h4.out
 rw [size_two] at h4' h5
 have hsz:=h5.size
 rw [size_two] at hsz
 exact ⟨A1,c1,S1,h1,Lib.hid h2,Lib.hid h3,Lib.hid h4',Lib.hid ⟨(hB _ _).trans (h5.mono (by omega)),(h5.block _ (by omega)).trans k0,(h5.block _ (by omega)).trans k1,Nat.le_refl _,hsz,fun _ _ _=>rfl⟩⟩
theorem fr_reads {T TF:TypeId} {w w1 W:World} {d0 d1 d2 d3 r0 r1 r2 r3:Value} {A:Option Addr} {n c:Nat} {fs:List FileD} {S1:Nat→Prop} (h:DFr T w w1 W d0 d1 d2 d3 r0 r1 r2 r3) (ho:OwnF w1 (w.heap.size+2) TF S1 A n c fs) (hS:∀ b,S1 b→w.heap.size+2≤b∧b < w1.heap.size):FilesIn W (Lt W.heap.size) A fs :=
 (h.own ho (Nat.le_refl _) hS).all (fun b hb=>by have:=hS b hb;have:=h.size;omega)
def mixF (ks:List Int) (fs:List FileD) (k:Nat):List FileD:=(backF ks fs).take k++fs.drop k
theorem mix_get {ks:List Int} {fs:List FileD} {k:Nat} (hk:k < fs.length):(mixF ks fs k)[k]?=fs[k]?:=by
 unfold mixF
 rw [List.getElem?_append_right (by rw [List.length_take];omega),List.length_take,back_len,show k - min k fs.length=0 by omega,List.getElem?_drop]
 simp
theorem mix_set {ks:List Int} {fs:List FileD} {k:Nat} {f:FileD} (hk:fs[k]?=some f):(mixF ks fs k).set k (keptOf ks k f)=mixF ks fs (k+1):=by
 obtain ⟨hl,rfl⟩:=List.getElem?_eq_some_iff.1 hk
 unfold mixF
 rw [List.set_append_right _ _ (by rw [List.length_take];omega),List.length_take,back_len,show k - min k fs.length=0 by omega,List.drop_eq_getElem_cons hl,List.set_cons_zero,List.take_add_one,back_get,hk]
 simp
theorem mix_zero (ks:List Int) (fs:List FileD):mixF ks fs 0=fs:=by unfold mixF;simp
theorem mix_all (ks:List Int) (fs:List FileD):mixF ks fs fs.length=backF ks fs:=by
 unfold mixF
 rw [List.take_of_length_le (by rw [back_len];exact Nat.le_refl _),List.drop_of_length_le (Nat.le_refl _),List.append_nil]
theorem left_eq (ks:List Int) (k:Nat) (f:FileD) {s tl:Nat} (hs:f.sure=(s:Int)) (hd:f.data.length=s+tl):leftOf ks k f=leftN ks k tl∧leftN ks k tl≤tl:=by
 unfold leftOf leftN
 rw [hs,hd]
 refine ⟨?_,Nat.min_le_right _ _⟩
 congr 1
 simp
set_option maxHeartbeats 6000000 in
theorem dback (A:Option Addr) (n c:Nat) (room fuse:Int) (down:Bool) (Ak:Option Addr) (nk ck:Nat) (fz:Int) (ks:List Int) (fs:List FileD) (r:DiskD × Int) (S:Nat→Prop) (w:World) (hS:∀ b,S b→b < w.heap.size) (hf:FilesIn w S A fs) (hn:fs.length=n) (hnc:n≤c) (hcm:c≤maxLen) (hr:inI room) (hfu:inI fuse) (hsh:shortB fs=true) (hk:IntsIn .i64 w S Ak ks) (hkn:ks.length=nk) (hkc:nk≤ck) (hkm:ck≤maxLen) (hkl:nk≤80) (hfz:inI fz) (hv:backD ⟨fs,room,fuse,down⟩ ks fz=r) :
  Calls Tryz.prog 29 #[.agg #[.slice A n c,.int .i64 room,.int .i64 fuse,.bool down],.slice Ak nk ck,.int .i64 fz] w (RetOp S w r):=by
 have HCP:=Lib.hid (dcopy_fr A n c room fuse down fs S w hS hf hn hnc hcm hsh)
 have hus:=used_short hsh
 obtain ⟨v,hv'⟩:∃ v,rightB ⟨fs,room,fuse,down⟩=v:=⟨_,rfl⟩
 have HN:=Lib.hid hn
 have HRI:Hid (∀ (A1:Option Addr) (c1:Nat) (S1:Nat→Prop) (w1 W:World) (d0 d1 d2 d3 r0 r1 r2 r3:Value),DFr 27 w w1 W d0 d1 d2 d3 r0 r1 r2 r3→OwnF w1 (w.heap.size+2) 79 S1 A1 n c1 fs→(∀ b,S1 b→w.heap.size+2≤b∧b < w1.heap.size) →
   Calls Tryz.prog 44 #[.agg #[.slice A1 n c1,.int .i64 room,.int .i64 fuse,.bool down]] W fun e w'=>e = .returned (.bool v)∧Below W.heap.size W w') :=
  Lib.hid (fun A1 c1 S1 w1 W d0 d1 d2 d3 r0 r1 r2 r3 h ho hs=>dright0 A1 n c1 room fuse down fs v (Lt W.heap.size) W (fun _ h=>h) (fr_reads h ho hs) hn ho.cap.1 ho.cap.2 hr hfu (by omega) hv')
 have HK:Hid (∀ W,Below w.heap.size w W→Ints .i64 W W.heap.size Ak ks):=Lib.hid (fun W h=>(ints_in.2 (hk.keep (below_alikeS h hS) (fun b hb=>Nat.lt_of_lt_of_le (hS b hb) h.size))))
 have HKN:=Lib.hid hkn
 have HV:=Lib.hid hv'
 have HR:=Lib.hid hv
 have HUS:=Lib.hid hus
 unfold inI at hfz hr hfu
 clear hf hn hnc hcm hsh hk hkn hkc hkm hv hv' hus hS
 by_cases hbad:v=true ∧ -1≤fz
 case neg =>
  have HR2:Hid (r=(⟨fs,room,fuse,down⟩,1)):=Lib.hid (by rw [← HR.out];unfold backD;rw [if_neg (by rw [HV.out];exact hbad)])
  have hcase:v=false∨(v=true∧fz < -1):=by cases v<;>simp at hbad ⊢;omega
  clear hbad HV
  rcases hcase with rfl | ⟨rfl,hz⟩
  all_goals
   go_enter Tryz.func29,Tryz.ntmps29
   go_wp2_with (first
    |((with_reducible refine HCP.out.mono ?_);rintro e w1 ⟨A1,c1,S1,rfl,HO1,HAP,HS1,F1⟩;obtain ⟨b0,b1,b2,b3,q0,q1,q2,q3,bf0,bf1,bf2,bf3,qf0,qf1,qf2,qf3⟩:=F1.out.cells;have F2:=Lib.hid (F1.out.setBox (.slice A1 n c1) (.int .i64 room) (.int .i64 fuse) (.bool down)))
    |((with_reducible refine (HRI.out _ _ _ _ _ _ _ _ _ _ _ _ _ F2.out HO1.out HS1.out).mono ?_);rintro e w2 ⟨rfl,hg2⟩;have F3:=Lib.hid (F2.out.below hg2);obtain ⟨bb0,bb1,bb2,bb3,qq0,qq1,qq2,qq3,bbf0,bbf1,bbf2,bbf3,qqf0,qqf1,qqf2,qqf3⟩:=F3.out.cells))
   refine bodyPost_ret (v:=.tuple #[.agg #[.slice A1 n c1,.int .i64 room,.int .i64 fuse,.bool down],.int .i64 1]) (by simp [results,Tryz.results29,go_sem,qq0,qq1,qq2,qq3]) rfl ?_
   rw [HR2.out]
   have F4:=F3.out.setRes (.slice A1 n c1) (.int .i64 room) (.int .i64 fuse) (.bool down)
   exact F4.ret (F4.own HO1.out (Nat.le_refl _) HS1.out) (by omega) (fun b hb=>by have:=HS1.out b hb;have:=F4.size;omega) _ _ _ _
 obtain ⟨rfl,hz⟩:=hbad
 have HR2:Hid (r=(⟨backF ks fs,room,fz,false⟩,0)):=Lib.hid (by rw [← HR.out];unfold backD;rw [if_pos ⟨HV.out,hz⟩])
 have HOK:Hid (∀ f ∈ fs,0≤f.sure∧f.sure≤(f.data.length:Int)∧f.data.length≤65536):=Lib.hid (fun f hm=>((file_iff f).1 ((right_files HV.out).2.1 f hm)).2)
 go_enter Tryz.func29,Tryz.ntmps29
 go_wp2_with (first
  |((with_reducible refine HCP.out.mono ?_);rintro e w1 ⟨A1,c1,S1,rfl,HO1,HAP,HS1,F1⟩;obtain ⟨b0,b1,b2,b3,q0,q1,q2,q3,bf0,bf1,bf2,bf3,qf0,qf1,qf2,qf3⟩:=F1.out.cells;have F2:=Lib.hid (F1.out.setBox (.slice A1 n c1) (.int .i64 room) (.int .i64 fuse) (.bool down)))
  |((with_reducible refine (HRI.out _ _ _ _ _ _ _ _ _ _ _ _ _ F2.out HO1.out HS1.out).mono ?_);rintro e w2 ⟨rfl,hg2⟩;have F3:=Lib.hid (F2.out.below hg2);obtain ⟨bb0,bb1,bb2,bb3,qq0,qq1,qq2,qq3,bbf0,bbf1,bbf2,bbf3,qqf0,qqf1,qqf2,qqf3⟩:=F3.out.cells))
 have HO3:=Lib.hid (F3.out.own HO1.out (Nat.le_refl _) HS1.out)
 have hcap:=HO1.out.cap
 have hn70:n≤70:=by rw [← HN.out];exact HUS.out.2
 have hsz13:=F3.out.size
 clear b0 b1 b2 b3 q0 q1 q2 q3 bf0 bf1 bf2 bf3 qf0 qf1 qf2 qf3 F2 F1 hg2 HCP HRI
 by_cases h0:n=0
 ·subst h0
  have hfs:fs=[]:=List.eq_nil_of_length_eq_zero HN.out
  subst hfs
  go_loopw [23] (fun i wr=>i = .int .i64 0∧wr=w2) (fun _ _=>0)
  case atStart=>exact ⟨rfl,rfl⟩
  case round =>
   obtain ⟨rfl,rfl⟩:=hrel
   go_wp2
   refine bodyPost_ret (v:=.tuple #[.agg #[.slice A1 0 c1,.int .i64 room,.int .i64 fz,.bool false],.int .i64 0]) (by simp [results,Tryz.results29,go_sem,qq0,qq1,qq2,qq3]) rfl ?_
   rw [HR2.out]
   have F4:=((F3.out.set3 (.bool false)).set2 (.int .i64 fz)).setRes (.slice A1 0 c1) (.int .i64 room) (.int .i64 fz) (.bool false)
   exact F4.ret (F4.own HO1.out (Nat.le_refl _) HS1.out) (by omega) (fun b hb=>by have:=HS1.out b hb;have:=F4.size;omega) _ _ _ _
 ·rcases HO3.out.2.2.2 with ⟨_,h,_⟩ | ⟨g,cur0,rfl,hgb,eg0,hcs0,hSg,hrow0⟩
  ·omega
  have hI0:Hid (∃ cur,DFr 27 w w2 w2 (.slice (some ⟨g,0,none⟩) n c1) (.int .i64 room) (.int .i64 fuse) (.bool down) (.slice none 0 0) (.int .i64 0) (.int .i64 0) (.bool false)∧w2.heap[g]?=some (.cells cur 79 (0,0))∧cur.size=c1 * 3∧RowAt w2 S1 cur (mixF ks fs 0)∧w2.heap.size≤w2.heap.size) :=
   Lib.hid ⟨cur0,F3.out.rebase,eg0,hcs0,by rw [mix_zero];exact hrow0,Nat.le_refl _⟩
  clear eg0 hcs0 hrow0 bb0 bb1 bb2 bb3 qq0 qq1 qq2 qq3 bbf0 bbf1 bbf2 bbf3 qqf0 qqf1 qqf2 qqf3 HO3
  have hn1:=hcap.1
  have hm1:=hcap.2
  unfold maxLen at hm1
  clear hcap
  go_loopw [23] (fun i wr => ∃ k:Nat,k≤n∧i = .int .i64 k∧Hid (∃ cur,DFr 27 w wr wr (.slice (some ⟨g,0,none⟩) n c1) (.int .i64 room) (.int .i64 fuse) (.bool down) (.slice none 0 0) (.int .i64 0) (.int .i64 0) (.bool false)∧wr.heap[g]?=some (.cells cur 79 (0,0))∧cur.size=c1 * 3∧RowAt wr S1 cur (mixF ks fs k)∧w2.heap.size≤wr.heap.size)) (fun i _=>n - (intOf i).toNat)
  case atStart=>exact ⟨0,Nat.zero_le _,rfl,hI0⟩
  case round =>
   obtain ⟨k,hk,rfl,HI⟩:=hrel
   obtain ⟨cur,fr,eg,hcs,hrow,hsz⟩:=HI.out
   obtain ⟨b0,b1,b2,b3,q0,q1,q2,q3,bf0,bf1,bf2,bf3,qf0,qf1,qf2,qf3⟩:=fr.cells
   have FR:=Lib.hid fr
   have EG:=Lib.hid eg
   have HRW:=Lib.hid hrow
   clear hI0 HI fr
   by_cases hlt:k < n
   ·have hkf:k < fs.length:=by rw [HN.out];exact hlt
    obtain ⟨f,hf⟩:∃ f,fs[k]?=some f:=⟨_,List.getElem?_eq_getElem hkf⟩
    obtain ⟨Ad,nd,cd,x0,x1,x2,x3,x4,x5,x6,x7,x8⟩:=hrow.at_ ((mix_get hkf).trans hf)
    obtain ⟨o1,o2,o3⟩:=HOK.out f (List.mem_of_getElem? hf)
    rw [x6.out] at o2 o3
    obtain ⟨s,hs⟩:∃ s:Nat,f.sure=(s:Int):=⟨f.sure.toNat,by omega⟩
    obtain ⟨tl,rfl⟩:∃ tl,nd=s+tl:=⟨nd - s,by omega⟩
    rw [hs] at x2
    obtain ⟨l,hl⟩:∃ l,leftN ks k tl=l:=⟨_,rfl⟩
    have hll:l≤tl:=by rw [← hl];exact (left_eq ks k f hs x6.out).2
    have HLE:Hid (leftOf ks k f=l):=Lib.hid (by rw [← hl];exact (left_eq ks k f hs x6.out).1)
    have HLF:Hid (Calls Tryz.prog 59 #[.int .i64 (tl:Nat),.slice Ak nk ck,.int .i64 (k:Nat)] wr.drew fun e w''=>e = .returned (.int .i64 (l:Nat))∧w''=wr.drew) :=
     Lib.hid (dleft tl k Ak nk ck ks l wr.drew (HK.out _ (FR.out.low.drew)) HKN.out (by omega) (by omega) (by omega) hl)
    obtain ⟨z1,zf1⟩:=block_cell eg (k * 3+1) _ x1
    obtain ⟨z2,zf2⟩:=block_cell eg (k * 3+2) _ x2
    have HSE:=Lib.hid hs
    have HX0:=Lib.hid x0
    have HF:=Lib.hid hf
    have HX5:=Lib.hid x5
    have hc3:k * 3+2 < cur.size:=by rw [hcs];omega
    have hw1:IntKind.i64.wrap ((s:Int)+(l:Int))=(s:Int)+(l:Int):=by rw [IntKind.wrap_i64];omega
    have hw2:IntKind.i64.wrap ((s:Int)+(tl:Int) - (s:Int))=(tl:Int):=by rw [IntKind.wrap_i64];omega
    have hb1:(0:Int)≤(s:Int)+(l:Int):=by omega
    have hb2:((s:Int)+(l:Int)).toNat=s+l:=by omega
    have hb3:(s:Int)+(l:Int)≤(cd:Int):=by omega
    have hb4:s+l≤cd:=by omega
    unfold maxLen at x8
    clear x0 x1 x2 x5 hs hf hrow eg hl o1
    go_wp2
    go_still_tail 26,(by kernel_rfl)
    still_call HLF.out
    repeat still_step
    refine wpStill_nil ?_
    change wpList _ _ _ _ _ wr.drew
    go_wp2
    go_roundw
    case rel =>
     have hd:(keptOf ks k f).data=f.data.take (s+l):=by unfold keptOf;rw [HLE.out,HSE.out];simp
     have hu:(keptOf ks k f).sure=(s:Int)+(l:Int):=by unfold keptOf;rw [HLE.out,HSE.out]
     have e1:=heap_setCell_same wr.drew g (k * 3+1) _ _ (.slice Ad (s+l) cd) EG.out
     have e2:=heap_setCell_same _ g (k * 3+2) _ _ (.int .i64 ((s:Int)+(l:Int))) e1
     refine ⟨k+1,by omega,by go_num,Lib.hid ⟨_,(FR.out.drew.setOwn (by omega) _).setOwn (by omega) _,e2,by simpa using hcs,?_,by simp [World.setCell];omega⟩⟩
     rw [← mix_set HF.out]
     refine HRW.out.set (fun b o hSb=>World.cell?_of_block ?_) (fun i hi=>by rw [set_cell _ (by omega),set_cell _ (by omega)]) (v:=.slice Ad (s+l) cd) ⟨?_,?_,?_,x3,?_⟩ ⟨Ad,s+l,cd,rfl,?_,?_,hb4,by unfold maxLen;omega⟩
     ·have hne:b≠g:=fun e=>hSg (e▸hSb)
      exact (Below.heap_setCell _ _ _ _ hne).trans (Below.heap_setCell _ _ _ _ hne)
     ·rw [set_cell _ (by omega),set_cell _ (by omega)];exact HX0.out
     ·rw [set_cell _ (by omega)];exact set_cell_self _ (by omega)
     ·rw [hu];exact set_cell_self _ (by simp;omega)
     ·rw [hu];exact WalkArith.wf_i64 (by omega)
     ·rw [hd]
      refine IntsIn.keep (bys_take' HX5.out (s+l)) (fun b o hSb=>World.cell?_of_block ?_) (fun _ h=>h)
      have hne:b≠g:=fun e=>hSg (e▸hSb)
      exact (Below.heap_setCell _ _ _ _ hne).trans (Below.heap_setCell _ _ _ _ hne)
     ·rw [hd,List.length_take,x6.out];omega
    case measure=>first | (simp [intOf];done) | (simp [intOf];omega)
   ·obtain rfl:k=n:=by omega
    have HRW2:Hid (RowAt wr S1 cur (backF ks fs)):=Lib.hid (by have:=HRW.out;rw [← HN.out,mix_all] at this;exact this)
    have hbl:Hid (∀ b,S1 b→b < w2.heap.size):=Lib.hid (fun b hb=>by have:=HS1.out b hb;omega)
    clear hrow HRW eg
    go_wp2
    refine bodyPost_ret (v:=.tuple #[.agg #[.slice (some ⟨g,0,none⟩) k c1,.int .i64 room,.int .i64 fz,.bool false],.int .i64 0]) (by simp [results,Tryz.results29,go_sem,q0,q1,q2,q3]) rfl ?_
    rw [HR2.out]
    have F4:=((FR.out.set3 (.bool false)).set2 (.int .i64 fz)).setRes (.slice (some ⟨g,0,none⟩) k c1) (.int .i64 room) (.int .i64 fz) (.bool false)
    have HO4:OwnF wr (w.heap.size+2) 79 S1 (some ⟨g,0,none⟩) k c1 (backF ks fs):=⟨by rw [back_len];exact HN.out,hn1,by unfold maxLen;omega,.inr ⟨g,cur,rfl,hgb,EG.out,hcs,hSg,HRW2.out⟩⟩
    exact F4.ret (F4.own HO4 (Nat.le_refl _) (fun b hb=>by have:=HS1.out b hb;omega)) (by omega) (fun b hb=>by have:=HS1.out b hb;have:=F4.size;omega) _ _ _ _
end Go.Proofs.YtalhdalinpdanaaGreatDoor.disk
end
section
namespace Go.Proofs.YtalhdalinpdanaaGreatDoor.disk
set_option maxRecDepth 20000
open Go.RowKit
theorem found_fr (n:Nat) (room fuse:Int) (down:Bool) (nm:ByteArray) (fs:List FileD) (p:Nat) (x:Int) (w:World) (hn:fs.length=n) (hr:inI room) (hfu:inI fuse) (hsh:shortB fs=true) (hnm:nm.size≤100) (hx:foundE ⟨fs,room,fuse,down⟩ nm=x) (hp:(if x=0 then placeN nm fs else 0)=p) :
  ∀ (A1:Option Addr) (c1:Nat) (S1:Nat→Prop) (w1 W:World) (d0 d1 d2 d3 r0 r1 r2 r3:Value),DFr 27 w w1 W d0 d1 d2 d3 r0 r1 r2 r3→OwnF w1 (w.heap.size+2) 79 S1 A1 n c1 fs→(∀ b,S1 b→w.heap.size+2≤b∧b < w1.heap.size) →
   Calls Tryz.prog 76 #[.agg #[.slice A1 n c1,.int .i64 room,.int .i64 fuse,.bool down],.string nm] W fun e w'=>e = .returned (.tuple #[.int .i64 (p:Nat),.int .i64 x])∧Below W.heap.size W w' :=
 fun A1 c1 S1 w1 W d0 d1 d2 d3 r0 r1 r2 r3 h ho hs=>dfound A1 n c1 room fuse down nm fs p x (Lt W.heap.size) W (fun _ h=>h) (fr_reads h ho hs) hn ho.cap.1 ho.cap.2 hr hfu (by have:=(used_short hsh).1;omega) (by unfold maxLen;omega) hx hp
theorem own_some {w:World} {base n c:Nat} {T:TypeId} {S:Nat→Prop} {A:Option Addr} {fs:List FileD} (h:OwnF w base T S A n c fs) (h0:0 < n) :
  ∃ g cur,A=some ⟨g,0,none⟩∧base≤g∧g < w.heap.size∧Hid (w.heap[g]?=some (.cells cur T (0,0)))∧cur.size=c * 3∧¬ S g∧Hid (RowAt w S cur fs):=by
 rcases h.2.2.2 with ⟨_,h1,_⟩ | ⟨g,cur,h1,h2,h3,h4,h5,h6⟩
 ·omega
 ·exact ⟨g,cur,h1,h2,(h.block g h1).2,Lib.hid h3,h4,h5,Lib.hid h6⟩
theorem set_row {fs:List FileD} (h:Row fs) {p:Nat} {f f' : FileD} (hf:fs[p]?=some f) (e:f'.name=f.name):Row (fs.set p f'):=by
 refine List.pairwise_iff_getElem.2 fun i j hi hj hij=>?_
 rw [List.length_set] at hi hj
 have hfp:=(List.getElem?_eq_some_iff.1 hf)
 rw [List.getElem_set,List.getElem_set]
 have hh:=List.pairwise_iff_getElem.1 h i j hi hj hij
 by_cases h1:p=i
 ·subst h1
  rw [if_pos rfl,if_neg (by omega),e]
  rw [hfp.2] at hh
  exact hh
 ·rw [if_neg h1]
  by_cases h2:p=j
  ·subst h2
   rw [if_pos rfl,e]
   rw [hfp.2] at hh
   exact hh
  ·rw [if_neg h2];exact hh
theorem with_set {fs:List FileD} (h:Row fs) {p:Nat} {f f' : FileD} (hf:fs[p]?=some f) (e:f'.name=f.name):withF f' fs=fs.set p f':=by
 refine Row.ext (row_with f' h) (set_row h hf e) fun g=>?_
 rw [mem_with h]
 have hp:=(List.getElem?_eq_some_iff.1 hf).1
 constructor
 ·rintro (rfl | ⟨h1,h2⟩)
  ·exact List.mem_iff_getElem.2 ⟨p,by rw [List.length_set];exact hp,by rw [List.getElem_set_self]⟩
  ·obtain ⟨j,hj,rfl⟩:=List.getElem_of_mem h1
   have hne:p≠j:=fun e2=>h2 (by subst e2;rw [(List.getElem?_eq_some_iff.1 hf).2,e])
   exact List.mem_iff_getElem.2 ⟨j,by rw [List.length_set];exact hj,by rw [List.getElem_set_ne hne]⟩
 ·intro hg
  obtain ⟨j,hj,rfl⟩:=List.getElem_of_mem hg
  rw [List.length_set] at hj
  by_cases e2:p=j
  ·subst e2;exact .inl (by rw [List.getElem_set_self])
  ·rw [List.getElem_set_ne e2]
   refine .inr ⟨List.getElem_mem hj,fun e3=>?_⟩
   have hfj:=List.getElem?_eq_getElem hj
   have h3:nlt f.name f.name:=by
    rcases Nat.lt_or_gt_of_ne e2 with h4 | h4
    ·have:=row_lt h hf hfj h4;rwa [e3,e] at this
    ·have:=row_lt h hfj hf h4;rwa [e3,e] at this
   exact nlt_irrefl _ h3
theorem op_no (d:DiskD) (nm:ByteArray) (fs:List FileD) :
  (foundE d nm≠0∧opD d nm nm (noE d.files nm) fs false=(d,foundE d nm)) ∨
  ∃ f,foundE d nm=0∧rightB d=true∧look nm d.files=some f∧oldOf nm d.files=f∧f.name=nm ∧ -1≤d.fuse ∧
   ((d.fuse=0∧spentD d.fuse d.down=((0,true),9)∧opD d nm nm (noE d.files nm) fs false=(⟨d.files,d.room,0,true⟩,9)) ∨
    ∃ f2,d.fuse≠0∧spentD d.fuse d.down=((f2,d.down),0)∧opD d nm nm (noE d.files nm) fs false=(⟨fs,d.room,f2,d.down⟩,0)):=by
 by_cases h:firstE d nm nm=0
 ·have hr:=(first_zero.1 h).1
  have hfz:=((right_iff d).1 hr).2.1
  cases e:look nm d.files with
  |none =>
   have h1:noE d.files nm=7:=by unfold noE;rw [if_pos e]
   have h2:foundE d nm=7:=by unfold foundE;rw [if_neg (by simpa using h),h1]
   rw [h2]
   exact .inl ⟨by simp,op_pre h h1 (by simp)⟩
  |some f =>
   have h1:noE d.files nm=0:=by unfold noE;rw [if_neg (by rw [e];simp)]
   have h2:foundE d nm=0:=by unfold foundE;rw [if_neg (by simpa using h),h1]
   refine .inr ⟨f,h2,hr,rfl,by unfold oldOf;rw [e];rfl,(look_some e).2,hfz,?_⟩
   by_cases hz:d.fuse=0
   ·exact .inl ⟨hz,by unfold spentD;rw [if_pos hz],op_down h h1 hz⟩
   ·refine .inr ⟨if 0 < d.fuse then d.fuse - 1 else d.fuse,hz,?_,op_done h h1 hz rfl⟩
    unfold spentD
    rw [if_neg hz]
    by_cases h3:d.fuse = -1
    ·rw [if_pos h3,h3];rfl
    ·rw [if_neg h3,if_pos (by omega)]
 ·have h2:foundE d nm=firstE d nm nm:=by unfold foundE;rw [if_pos h]
  rw [h2]
  exact .inl ⟨h,op_first rfl h⟩
theorem own_set {W W' : World} {base n c g p:Nat} {T:TypeId} {S:Nat→Prop} {fs:List FileD} {cur cur' : Array Value} {f' : FileD} {v:Value} (hlen:fs.length=n) (hn:n≤c) (hc:c≤9223372036854775807) (hb:base≤g) (hrow:RowAt W S cur fs) (hSg:¬ S g)
  (hE:W'.heap[g]?=some (.cells cur' T (0,0))) (hcs:cur'.size=c * 3) (hal:Alike S W W') (hoff:∀ i,(i < p * 3∨p * 3+3≤i)→cur'[i]?=cur[i]?) (hk:FileCells cur' p f' v) (hd:rdData W' S v f'.data):OwnF W' base T S (some ⟨g,0,none⟩) n c (fs.set p f') :=
 ⟨by rw [List.length_set];exact hlen,hn,by unfold maxLen;omega,.inr ⟨g,cur',rfl,hb,hE,hcs,hSg,hrow.set hal hoff hk hd⟩⟩
set_option maxHeartbeats 6000000 in
theorem dsync (A:Option Addr) (n c:Nat) (room fuse:Int) (down:Bool) (nm:ByteArray) (fs:List FileD) (r:DiskD × Int) (S:Nat→Prop) (w:World) (hS:∀ b,S b→b < w.heap.size) (hf:FilesIn w S A fs) (hn:fs.length=n) (hnc:n≤c) (hcm:c≤maxLen) (hr:inI room) (hfu:inI fuse) (hsh:shortB fs=true) (hnm:nm.size≤100) (hv:syncD ⟨fs,room,fuse,down⟩ nm=r) :
  Calls Tryz.prog 69 #[.agg #[.slice A n c,.int .i64 room,.int .i64 fuse,.bool down],.string nm] w (RetOp S w r):=by
 have HCP:=Lib.hid (dcopy_fr A n c room fuse down fs S w hS hf hn hnc hcm hsh)
 obtain ⟨x,hx⟩:∃ x,foundE ⟨fs,room,fuse,down⟩ nm=x:=⟨_,rfl⟩
 obtain ⟨p,hp⟩:∃ p,(if x=0 then placeN nm fs else 0)=p:=⟨_,rfl⟩
 have HFD:=Lib.hid (found_fr n room fuse down nm fs p x w hn hr hfu hsh hnm hx hp)
 have HN:=Lib.hid hn
 have hn70:n≤70:=by rw [← hn];exact (used_short hsh).2
 rcases op_no ⟨fs,room,fuse,down⟩ nm (syncF fs nm) with ⟨h1,h2⟩ | ⟨f,h1,hrt,hlk,hold,hname,hfz,h2⟩
 ·have HR2:Hid (r=(⟨fs,room,fuse,down⟩,x)):=Lib.hid (by rw [← hv,← hx];exact h2)
  have hx1:(x != 0)=true:=by rw [← hx];simpa using h1
  clear hf hn hnc hcm hsh hx hp hv h1 h2 hS hnm
  go_enter Tryz.func69,Tryz.ntmps69
  go_wp2_with (first
   |((with_reducible refine HCP.out.mono ?_);rintro e w1 ⟨A1,c1,S1,rfl,HO1,HAP,HS1,F1⟩;obtain ⟨b0,b1,b2,b3,q0,q1,q2,q3,bf0,bf1,bf2,bf3,qf0,qf1,qf2,qf3⟩:=F1.out.cells;have F2:=Lib.hid (F1.out.setBox (.slice A1 n c1) (.int .i64 room) (.int .i64 fuse) (.bool down)))
   |((with_reducible refine (HFD.out _ _ _ _ _ _ _ _ _ _ _ _ _ F2.out HO1.out HS1.out).mono ?_);rintro e w2 ⟨rfl,hg2⟩;have F3:=Lib.hid (F2.out.below hg2);obtain ⟨bb0,bb1,bb2,bb3,qq0,qq1,qq2,qq3,bbf0,bbf1,bbf2,bbf3,qqf0,qqf1,qqf2,qqf3⟩:=F3.out.cells))
  refine bodyPost_ret (v:=.tuple #[.agg #[.slice A1 n c1,.int .i64 room,.int .i64 fuse,.bool down],.int .i64 x]) (by simp [results,Tryz.results69,go_sem,qq0,qq1,qq2,qq3]) rfl ?_
  rw [HR2.out]
  have F4:=F3.out.setRes (.slice A1 n c1) (.int .i64 room) (.int .i64 fuse) (.bool down)
  exact F4.ret (F4.own HO1.out (Nat.le_refl _) HS1.out) (by omega) (fun b hb=>by have:=HS1.out b hb;have:=F4.size;omega) _ _ _ _
 ·obtain rfl:0=x:=by rw [← hx,h1]
  have hrow:Row fs:=((right_iff _).1 hrt).2.2.2.2.1
  have hpl:=place_at hrow hlk
  have hpp:placeN nm fs=p:=by rw [← hp];simp
  rw [hpp] at hpl
  have hpn:p < n:=by rw [← hn];exact (List.getElem?_eq_some_iff.1 hpl).1
  have hfl:f.data.length≤70000:=by have:=used_mem (List.mem_of_getElem? hpl);have:=(used_short hsh).1;omega
  rcases h2 with ⟨hz,hsp,h2⟩ | ⟨f2,hz,hsp,h2⟩
  ·have HR2:Hid (r=(⟨fs,room,0,true⟩,9)):=Lib.hid (by rw [← hv];exact h2)
   have HSP:Hid (∀ A1 c1 W,Calls Tryz.prog 77 #[.agg #[.slice A1 n c1,.int .i64 room,.int .i64 fuse,.bool down]] W fun e w'=>e = .returned (.tuple #[.agg #[.slice A1 n c1,.int .i64 room,.int .i64 0,.bool true],.int .i64 9])∧Below W.heap.size W w') :=
    Lib.hid (fun A1 c1 W=>dspent A1 n c1 room fuse down 0 true 9 W hfu hfz hsp)
   clear hf hn hnc hcm hsh hx hp hv h1 h2 hS hnm hz hsp hrt hlk hold hname hrow hpl hpp
   go_enter Tryz.func69,Tryz.ntmps69
   go_wp2_with (first
    |((with_reducible refine HCP.out.mono ?_);rintro e w1 ⟨A1,c1,S1,rfl,HO1,HAP,HS1,F1⟩;obtain ⟨b0,b1,b2,b3,q0,q1,q2,q3,bf0,bf1,bf2,bf3,qf0,qf1,qf2,qf3⟩:=F1.out.cells;have F2:=Lib.hid (F1.out.setBox (.slice A1 n c1) (.int .i64 room) (.int .i64 fuse) (.bool down)))
    |((with_reducible refine (HFD.out _ _ _ _ _ _ _ _ _ _ _ _ _ F2.out HO1.out HS1.out).mono ?_);rintro e w2 ⟨rfl,hg2⟩;have F3:=Lib.hid (F2.out.below hg2);obtain ⟨bb0,bb1,bb2,bb3,qq0,qq1,qq2,qq3,bbf0,bbf1,bbf2,bbf3,qqf0,qqf1,qqf2,qqf3⟩:=F3.out.cells)
    |((with_reducible refine (HSP.out _ _ _).mono ?_);rintro e w4 ⟨rfl,hg4⟩;have F4:=Lib.hid (F3.out.below hg4);obtain ⟨cb0,cb1,cb2,cb3,cq0,cq1,cq2,cq3,cbf0,cbf1,cbf2,cbf3,cqf0,cqf1,cqf2,cqf3⟩:=F4.out.cells))
   refine bodyPost_ret (v:=.tuple #[.agg #[.slice A1 n c1,.int .i64 room,.int .i64 0,.bool true],.int .i64 9]) (by simp [results,Tryz.results69,go_sem,cq0,cq1,cq2,cq3]) rfl ?_
   rw [HR2.out]
   have F5:=(F4.out.setBox (.slice A1 n c1) (.int .i64 room) (.int .i64 0) (.bool true)).setRes (.slice A1 n c1) (.int .i64 room) (.int .i64 0) (.bool true)
   exact F5.ret (F5.own HO1.out (Nat.le_refl _) HS1.out) (by omega) (fun b hb=>by have:=HS1.out b hb;have:=F5.size;omega) _ _ _ _
  ·have HSYN:Hid (syncF fs nm=fs.set p { f with sure:=(f.data.length:Nat) }):=Lib.hid (by unfold syncF;rw [hold];exact with_set hrow hpl rfl)
   have HR2:Hid (r=(⟨fs.set p { f with sure:=(f.data.length:Nat) },room,f2,down⟩,0)):=Lib.hid (by rw [← hv,← HSYN.out];exact h2)
   have HSP:Hid (∀ A1 c1 W,Calls Tryz.prog 77 #[.agg #[.slice A1 n c1,.int .i64 room,.int .i64 fuse,.bool down]] W fun e w'=>e = .returned (.tuple #[.agg #[.slice A1 n c1,.int .i64 room,.int .i64 f2,.bool down],.int .i64 0])∧Below W.heap.size W w') :=
    Lib.hid (fun A1 c1 W=>dspent A1 n c1 room fuse down f2 down 0 W hfu hfz hsp)
   have HPL:=Lib.hid hpl
   have HFL:=Lib.hid hfl
   clear hf hn hnc hcm hsh hx hp hv h1 h2 hS hnm hz hsp hrt hlk hold hname hrow hpl hpp hfl
   go_enter Tryz.func69,Tryz.ntmps69
   go_wp2_with (first
    |((with_reducible refine HCP.out.mono ?_);rintro e w1 ⟨A1,c1,S1,rfl,HO1,HAP,HS1,F1⟩;have hc63:=HO1.out.cap.2;have hc62:=HO1.out.cap.1;unfold maxLen at hc63;obtain ⟨g,cur,rfl,hgb,hgw,EG,hcs,hSg,HRW⟩:=own_some HO1.out (by omega);obtain ⟨b0,b1,b2,b3,q0,q1,q2,q3,bf0,bf1,bf2,bf3,qf0,qf1,qf2,qf3⟩:=F1.out.cells;have F2:=Lib.hid (F1.out.setBox (.slice (some ⟨g,0,none⟩) n c1) (.int .i64 room) (.int .i64 fuse) (.bool down)))
    |((with_reducible refine (HFD.out _ _ _ _ _ _ _ _ _ _ _ _ _ F2.out HO1.out HS1.out).mono ?_);rintro e w2 ⟨rfl,hg2⟩;have F3:=Lib.hid (F2.out.below hg2);obtain ⟨bb0,bb1,bb2,bb3,qq0,qq1,qq2,qq3,bbf0,bbf1,bbf2,bbf3,qqf0,qqf1,qqf2,qqf3⟩:=F3.out.cells)
    |((with_reducible refine (HSP.out _ _ _).mono ?_);rintro e w4 ⟨rfl,hg4⟩;have F4:=Lib.hid (F3.out.below hg4);obtain ⟨cb0,cb1,cb2,cb3,cq0,cq1,cq2,cq3,cbf0,cbf1,cbf2,cbf3,cqf0,cqf1,cqf2,cqf3⟩:=F4.out.cells))
   have F5:=Lib.hid (F4.out.setBox (.slice (some ⟨g,0,none⟩) n c1) (.int .i64 room) (.int .i64 f2) (.bool down))
   obtain ⟨Ad,nd,cd,x0,x1,x2,x3,x4,x5,x6,x7,x8⟩:=HRW.out.at_ HPL.out
   have EG5:=Lib.hid ((F5.out.same g hgb hgw).trans EG.out)
   have HO5:=Lib.hid (F5.out.own HO1.out (Nat.le_refl _) HS1.out)
   obtain ⟨db0,db1,db2,db3,dq0,dq1,dq2,dq3,dbf0,dbf1,dbf2,dbf3,dqf0,dqf1,dqf2,dqf3⟩:=F5.out.cells
   obtain ⟨z1,zf1⟩:=block_cell EG5.out (p * 3+1) _ x1
   obtain ⟨z2,zf2⟩:=block_cell EG5.out (p * 3+2) _ x2
   have hsz5:=F5.out.size
   have HX0:=Lib.hid x0
   have HX1:=Lib.hid x1
   have HX5:=Lib.hid x5
   have hnd:nd≤70000:=by have:=x6.out;have:=HFL.out;omega
   have hc3:p * 3+2 < cur.size:=by rw [hcs];omega
   unfold maxLen at x8
   clear x0 x1 x2 x5 cb0 cb1 cb2 cb3 cq0 cq1 cq2 cq3 cbf0 cbf1 cbf2 cbf3 cqf0 cqf1 cqf2 cqf3 bb0 bb1 bb2 bb3 qq0 qq1 qq2 qq3 bbf0 bbf1 bbf2 bbf3 qqf0 qqf1 qqf2 qqf3 b0 b1 b2 b3 q0 q1 q2 q3 bf0 bf1 bf2 bf3 qf0 qf1 qf2 qf3 hg4 hg2 HFD HSP HCP
   generalize ((((w4.setCell ⟨w.heap.size,0,none⟩ (.slice (some ⟨g,0,none⟩) n c1)).setCell ⟨w.heap.size,1,none⟩ (.int .i64 room)).setCell ⟨w.heap.size,2,none⟩ (.int .i64 f2)).setCell ⟨w.heap.size,3,none⟩ (.bool down))=w5 at *
   go_still_tail 12,(by kernel_rfl)
   change wpList _ _ _ _ _ w5.drew
   have hne0:w.heap.size≠g:=by omega
   have hne1:w.heap.size+1≠g:=by omega
   go_wp2
   refine bodyPost_ret (v:=.tuple #[.agg #[.slice (some ⟨g,0,none⟩) n c1,.int .i64 room,.int .i64 f2,.bool down],.int .i64 0]) (by simp [results,Tryz.results69,go_sem,dq0,dq1,dq2,dq3]) rfl ?_
   rw [HR2.out]
   have F6:=F5.out.drew.setOwn (g:=g) (i:=p * 3+2) hgb (.int .i64 (nd:Int))
   have hAL:∀ b,S1 b→(w5.drew.setCell ⟨g,p * 3+2,none⟩ (.int .i64 (nd:Int))).heap[b]?=w1.heap[b]?:=fun b hSb=>by
    have hne:b≠g:=fun e=>hSg (e▸hSb)
    exact (Below.heap_setCell _ _ _ _ hne).trans (F5.out.same b (HS1.out b hSb).1 (HS1.out b hSb).2)
   have HO6:OwnF (w5.drew.setCell ⟨g,p * 3+2,none⟩ (.int .i64 (nd:Int))) (w.heap.size+2) 79 S1 (some ⟨g,0,none⟩) n c1 (fs.set p { f with sure:=(f.data.length:Nat) }):=by
    refine own_set (v:=.slice Ad nd cd) HN.out hc62 hc63 hgb HRW.out hSg (heap_setCell_same w5.drew g _ _ _ _ EG5.out) (by simpa using hcs) (fun b o hSb=>World.cell?_of_block (hAL b hSb)) (fun i hi=>set_cell _ (by omega)) ⟨?_,?_,?_,x3,?_⟩ ⟨Ad,nd,cd,rfl,?_,x6.out,x7,by unfold maxLen;omega⟩
    ·rw [set_cell _ (by omega)];exact HX0.out
    ·rw [set_cell _ (by omega)];exact HX1.out
    ·rw [x6.out];exact set_cell_self _ hc3
    ·rw [x6.out];show (Lit.int .i64 (nd:Int)).wf=true;exact WalkArith.wf_i64 (by omega)
    ·exact IntsIn.keep HX5.out (fun b o hSb=>World.cell?_of_block (hAL b hSb)) (fun _ h=>h)
   have F7:=F6.setRes (.slice (some ⟨g,0,none⟩) n c1) (.int .i64 room) (.int .i64 f2) (.bool down)
   have hsz6:(w5.drew.setCell ⟨g,p * 3+2,none⟩ (.int .i64 (nd:Int))).heap.size=w5.heap.size:=by simp [World.setCell]
   exact F7.ret (F7.own HO6 (Nat.le_refl _) (fun b hb=>by have:=HS1.out b hb;rw [hsz6];omega)) (by omega) (fun b hb=>by have:=HS1.out b hb;have:=F7.size;rw [hsz6] at this;omega) _ _ _ _
end Go.Proofs.YtalhdalinpdanaaGreatDoor.disk
end
section
namespace Go.Proofs.YtalhdalinpdanaaGreatDoor.disk
set_option maxRecDepth 20000
open Go.RowKit
theorem op_cut (d:DiskD) (nm:ByteArray) (nn:Int) :
  (foundE d nm≠0∧cutD d nm nn=(d,foundE d nm)) ∨
  ∃ f,foundE d nm=0∧rightB d=true∧look nm d.files=some f∧oldOf nm d.files=f ∧ -1≤d.fuse ∧
   (((nn < 0∨(f.data.length:Int) < nn)∧cutD d nm nn=(d,1)) ∨
    (0≤nn∧nn≤(f.data.length:Int)∧d.fuse=0∧spentD d.fuse d.down=((0,true),9)∧cutD d nm nn=(⟨d.files,d.room,0,true⟩,9)) ∨
    ∃ f2,0≤nn∧nn≤(f.data.length:Int)∧d.fuse≠0∧spentD d.fuse d.down=((f2,d.down),0)∧cutD d nm nn=(⟨cutF d.files nm nn,d.room,f2,d.down⟩,0)):=by
 rcases op_no d nm (cutF d.files nm nn) with ⟨h1,h2⟩ | ⟨f,h1,hrt,hlk,hold,hname,hfz,h2⟩
 ·refine .inl ⟨h1,?_⟩
  by_cases h:firstE d nm nm=0
  ·have h3:foundE d nm=noE d.files nm:=by unfold foundE;rw [if_neg (by simpa using h)]
   have h4:look nm d.files=none:=by
    cases e:look nm d.files with
    |none=>rfl
    |some f=>exfalso;apply h1;rw [h3];unfold noE;rw [if_neg (by rw [e];simp)]
   have h5:cutE d.files nm nn=foundE d nm:=by rw [h3];unfold cutE noE;rw [if_pos h4,if_pos h4]
   exact op_pre h h5 h1
  ·have h3:foundE d nm=firstE d nm nm:=by unfold foundE;rw [if_pos h]
   rw [h3];exact op_first rfl h
 ·have h:firstE d nm nm=0:=by
   by_cases h:firstE d nm nm=0
   ·exact h
   ·unfold foundE at h1;rw [if_pos h] at h1;exact h1
  refine .inr ⟨f,h1,hrt,hlk,hold,hfz,?_⟩
  by_cases hb:nn < 0∨(f.data.length:Int) < nn
  ·exact .inl ⟨hb,op_pre h (by unfold cutE;rw [if_neg (by rw [hlk];simp),hold,if_pos hb]) (by simp)⟩
  ·have h5:cutE d.files nm nn=0:=by unfold cutE;rw [if_neg (by rw [hlk];simp),hold,if_neg hb]
   rcases h2 with ⟨hz,hsp,_⟩ | ⟨f2,hz,hsp,h6⟩
   ·exact .inr (.inl ⟨by omega,by omega,hz,hsp,op_down h h5 hz⟩)
   ·refine .inr (.inr ⟨f2,by omega,by omega,hz,hsp,?_⟩)
    have e:=op_done (d:=d) (a:=nm) (b:=nm) (fs:=cutF d.files nm nn) (app:=false) h h5 hz rfl
    have h7:noE d.files nm=0:=by unfold noE;rw [if_neg (by rw [hlk];simp)]
    have e2:=op_done (d:=d) (a:=nm) (b:=nm) (fs:=cutF d.files nm nn) (app:=false) h h7 hz rfl
    rw [h6] at e2
    show opD d nm nm (cutE d.files nm nn) (cutF d.files nm nn) false=_
    rw [e,← e2]
set_option maxHeartbeats 8000000 in
theorem dcut (A:Option Addr) (n c:Nat) (room fuse:Int) (down:Bool) (nm:ByteArray) (nn:Int) (fs:List FileD) (r:DiskD × Int) (S:Nat→Prop) (w:World) (hS:∀ b,S b→b < w.heap.size) (hf:FilesIn w S A fs) (hn:fs.length=n) (hnc:n≤c) (hcm:c≤maxLen) (hr:inI room) (hfu:inI fuse) (hsh:shortB fs=true) (hnm:nm.size≤100) (hnn:inI nn) (hv:cutD ⟨fs,room,fuse,down⟩ nm nn=r) :
  Calls Tryz.prog 93 #[.agg #[.slice A n c,.int .i64 room,.int .i64 fuse,.bool down],.string nm,.int .i64 nn] w (RetOp S w r):=by
 have HCP:=Lib.hid (dcopy_fr A n c room fuse down fs S w hS hf hn hnc hcm hsh)
 obtain ⟨x,hx⟩:∃ x,foundE ⟨fs,room,fuse,down⟩ nm=x:=⟨_,rfl⟩
 obtain ⟨p,hp⟩:∃ p,(if x=0 then placeN nm fs else 0)=p:=⟨_,rfl⟩
 have HFD:=Lib.hid (found_fr n room fuse down nm fs p x w hn hr hfu hsh hnm hx hp)
 have HN:=Lib.hid hn
 have hn70:n≤70:=by rw [← hn];exact (used_short hsh).2
 unfold inI at hnn
 rcases op_cut ⟨fs,room,fuse,down⟩ nm nn with ⟨h1,h2⟩ | ⟨f,h1,hrt,hlk,hold,hfz,h2⟩
 ·have HR2:Hid (r=(⟨fs,room,fuse,down⟩,x)):=Lib.hid (by rw [← hv,← hx];exact h2)
  have hx1:(x != 0)=true:=by rw [← hx];simpa using h1
  clear hf hn hnc hcm hsh hx hp hv h1 hS hnm h2
  go_enter Tryz.func93,Tryz.ntmps93
  go_wp2_with (first
   |((with_reducible refine HCP.out.mono ?_);rintro e w1 ⟨A1,c1,S1,rfl,HO1,HAP,HS1,F1⟩;obtain ⟨b0,b1,b2,b3,q0,q1,q2,q3,bf0,bf1,bf2,bf3,qf0,qf1,qf2,qf3⟩:=F1.out.cells;have F2:=Lib.hid (F1.out.setBox (.slice A1 n c1) (.int .i64 room) (.int .i64 fuse) (.bool down)))
   |((with_reducible refine (HFD.out _ _ _ _ _ _ _ _ _ _ _ _ _ F2.out HO1.out HS1.out).mono ?_);rintro e w2 ⟨rfl,hg2⟩;have F3:=Lib.hid (F2.out.below hg2);obtain ⟨bb0,bb1,bb2,bb3,qq0,qq1,qq2,qq3,bbf0,bbf1,bbf2,bbf3,qqf0,qqf1,qqf2,qqf3⟩:=F3.out.cells))
  refine bodyPost_ret (v:=.tuple #[.agg #[.slice A1 n c1,.int .i64 room,.int .i64 fuse,.bool down],.int .i64 x]) (by simp [results,Tryz.results93,go_sem,qq0,qq1,qq2,qq3]) rfl ?_
  rw [HR2.out]
  have F4:=F3.out.setRes (.slice A1 n c1) (.int .i64 room) (.int .i64 fuse) (.bool down)
  exact F4.ret (F4.own HO1.out (Nat.le_refl _) HS1.out) (by omega) (fun b hb=>by have:=HS1.out b hb;have:=F4.size;omega) _ _ _ _
 ·obtain rfl:0=x:=by rw [← hx,h1]
  have hrow:Row fs:=((right_iff _).1 hrt).2.2.2.2.1
  have hpl:=place_at hrow hlk
  have hpp:placeN nm fs=p:=by rw [← hp];simp
  rw [hpp] at hpl
  have hpn:p < n:=by rw [← hn];exact (List.getElem?_eq_some_iff.1 hpl).1
  have hfl:f.data.length≤70000:=by have:=used_mem (List.mem_of_getElem? hpl);have:=(used_short hsh).1;omega
  have HPL:=Lib.hid hpl
  have hso:=((file_iff f).1 ((right_files hrt).2.1 f (List.mem_of_getElem? hpl))).2
  rcases h2 with ⟨hb,h2⟩ | ⟨hb1,hb2,hz,hsp,h2⟩ | ⟨f2,hb1,hb2,hz,hsp,h2⟩
  ·have HR2:Hid (r=(⟨fs,room,fuse,down⟩,1)):=Lib.hid (by rw [← hv];exact h2)
   clear hf hn hnc hcm hsh hx hp hv h1 hS hnm h2 hrt hlk hold hrow hpl hpp hso
   have hcase:nn < 0∨(0≤nn∧(f.data.length:Int) < nn):=by omega
   clear hb
   rcases hcase with hb | ⟨hb,hb2⟩
   all_goals
    go_enter Tryz.func93,Tryz.ntmps93
    go_wp2_with (first
     |((with_reducible refine HCP.out.mono ?_);rintro e w1 ⟨A1,c1,S1,rfl,HO1,HAP,HS1,F1⟩;have hc63:=HO1.out.cap.2;have hc62:=HO1.out.cap.1;unfold maxLen at hc63;obtain ⟨g,cur,rfl,hgb,hgw,EG,hcs,hSg,HRW⟩:=own_some HO1.out (by omega);obtain ⟨b0,b1,b2,b3,q0,q1,q2,q3,bf0,bf1,bf2,bf3,qf0,qf1,qf2,qf3⟩:=F1.out.cells;have F2:=Lib.hid (F1.out.setBox (.slice (some ⟨g,0,none⟩) n c1) (.int .i64 room) (.int .i64 fuse) (.bool down)))
     |((with_reducible refine (HFD.out _ _ _ _ _ _ _ _ _ _ _ _ _ F2.out HO1.out HS1.out).mono ?_);rintro e w2 ⟨rfl,hg2⟩;have F3:=Lib.hid (F2.out.below hg2);obtain ⟨bb0,bb1,bb2,bb3,qq0,qq1,qq2,qq3,bbf0,bbf1,bbf2,bbf3,qqf0,qqf1,qqf2,qqf3⟩:=F3.out.cells;obtain ⟨Ad,nd,cd,x0,x1,x2,x3,x4,x5,x6,x7,x8⟩:=HRW.out.at_ HPL.out;have x6':=x6.out;obtain rfl:nd=f.data.length:=x6'.symm;have EG3:=Lib.hid ((F3.out.same g hgb hgw).trans EG.out);obtain ⟨z1,zf1⟩:=block_cell EG3.out (p * 3+1) _ x1;clear x6'))
    refine bodyPost_ret (v:=.tuple #[.agg #[.slice (some ⟨g,0,none⟩) n c1,.int .i64 room,.int .i64 fuse,.bool down],.int .i64 1]) (by simp [results,Tryz.results93,go_sem,qq0,qq1,qq2,qq3]) rfl ?_
    rw [HR2.out]
    have F4:=F3.out.setRes (.slice (some ⟨g,0,none⟩) n c1) (.int .i64 room) (.int .i64 fuse) (.bool down)
    exact F4.ret (F4.own HO1.out (Nat.le_refl _) HS1.out) (by omega) (fun b hb=>by have:=HS1.out b hb;have:=F4.size;omega) _ _ _ _
  ·have HR2:Hid (r=(⟨fs,room,0,true⟩,9)):=Lib.hid (by rw [← hv];exact h2)
   have HSP:Hid (∀ A1 c1 W,Calls Tryz.prog 77 #[.agg #[.slice A1 n c1,.int .i64 room,.int .i64 fuse,.bool down]] W fun e w'=>e = .returned (.tuple #[.agg #[.slice A1 n c1,.int .i64 room,.int .i64 0,.bool true],.int .i64 9])∧Below W.heap.size W w') :=
    Lib.hid (fun A1 c1 W=>dspent A1 n c1 room fuse down 0 true 9 W hfu hfz hsp)
   clear hf hn hnc hcm hsh hx hp hv h1 hS hnm h2 hz hsp hrt hlk hold hrow hpl hpp hso
   go_enter Tryz.func93,Tryz.ntmps93
   go_wp2_with (first
    |((with_reducible refine HCP.out.mono ?_);rintro e w1 ⟨A1,c1,S1,rfl,HO1,HAP,HS1,F1⟩;have hc63:=HO1.out.cap.2;have hc62:=HO1.out.cap.1;unfold maxLen at hc63;obtain ⟨g,cur,rfl,hgb,hgw,EG,hcs,hSg,HRW⟩:=own_some HO1.out (by omega);obtain ⟨b0,b1,b2,b3,q0,q1,q2,q3,bf0,bf1,bf2,bf3,qf0,qf1,qf2,qf3⟩:=F1.out.cells;have F2:=Lib.hid (F1.out.setBox (.slice (some ⟨g,0,none⟩) n c1) (.int .i64 room) (.int .i64 fuse) (.bool down)))
    |((with_reducible refine (HFD.out _ _ _ _ _ _ _ _ _ _ _ _ _ F2.out HO1.out HS1.out).mono ?_);rintro e w2 ⟨rfl,hg2⟩;have F3:=Lib.hid (F2.out.below hg2);obtain ⟨bb0,bb1,bb2,bb3,qq0,qq1,qq2,qq3,bbf0,bbf1,bbf2,bbf3,qqf0,qqf1,qqf2,qqf3⟩:=F3.out.cells;obtain ⟨Ad,nd,cd,x0,x1,x2,x3,x4,x5,x6,x7,x8⟩:=HRW.out.at_ HPL.out;have x6':=x6.out;obtain rfl:nd=f.data.length:=x6'.symm;have EG3:=Lib.hid ((F3.out.same g hgb hgw).trans EG.out);obtain ⟨z1,zf1⟩:=block_cell EG3.out (p * 3+1) _ x1;clear x6')
    |((with_reducible refine (HSP.out _ _ _).mono ?_);rintro e w4 ⟨rfl,hg4⟩;have F4:=Lib.hid (F3.out.below hg4);obtain ⟨cb0,cb1,cb2,cb3,cq0,cq1,cq2,cq3,cbf0,cbf1,cbf2,cbf3,cqf0,cqf1,cqf2,cqf3⟩:=F4.out.cells))
   refine bodyPost_ret (v:=.tuple #[.agg #[.slice (some ⟨g,0,none⟩) n c1,.int .i64 room,.int .i64 0,.bool true],.int .i64 9]) (by simp [results,Tryz.results93,go_sem,cq0,cq1,cq2,cq3]) rfl ?_
   rw [HR2.out]
   have F5:=(F4.out.setBox (.slice (some ⟨g,0,none⟩) n c1) (.int .i64 room) (.int .i64 0) (.bool true)).setRes (.slice (some ⟨g,0,none⟩) n c1) (.int .i64 room) (.int .i64 0) (.bool true)
   exact F5.ret (F5.own HO1.out (Nat.le_refl _) HS1.out) (by omega) (fun b hb=>by have:=HS1.out b hb;have:=F5.size;omega) _ _ _ _
  ·obtain ⟨m,rfl⟩:∃ m:Nat,nn=(m:Int):=⟨nn.toNat,by omega⟩
   obtain ⟨s,hs⟩:∃ s:Nat,f.sure=(s:Int):=⟨f.sure.toNat,by omega⟩
   obtain ⟨t,ht⟩:∃ t:Nat,(if m < s then m else s)=t:=⟨_,rfl⟩
   have HCUT:Hid (cutF fs nm (m:Int)=fs.set p { f with data:=f.data.take m,sure:=(t:Int) }):=Lib.hid (by
    unfold cutF
    rw [hold,hs]
    have e:(if (m:Int) < (s:Int) then (m:Int) else (s:Int))=(t:Int):=by rw [← ht];split<;>split<;>omega
    rw [e]
    simp only [Int.toNat_natCast]
    exact with_set hrow hpl rfl)
   have HR2:Hid (r=(⟨fs.set p { f with data:=f.data.take m,sure:=(t:Int) },room,f2,down⟩,0)):=Lib.hid (by rw [← hv,← HCUT.out];exact h2)
   have HSP:Hid (∀ A1 c1 W,Calls Tryz.prog 77 #[.agg #[.slice A1 n c1,.int .i64 room,.int .i64 fuse,.bool down]] W fun e w'=>e = .returned (.tuple #[.agg #[.slice A1 n c1,.int .i64 room,.int .i64 f2,.bool down],.int .i64 0])∧Below W.heap.size W w') :=
    Lib.hid (fun A1 c1 W=>dspent A1 n c1 room fuse down f2 down 0 W hfu hfz hsp)
   have HS:=Lib.hid hs
   have hss:s≤70000:=by omega
   clear hf hn hnc hcm hsh hx hp hv h1 hS hnm h2 hz hsp hrt hlk hold hrow hpl hpp hso hs
   go_enter Tryz.func93,Tryz.ntmps93
   go_wp2_with (first
    |((with_reducible refine HCP.out.mono ?_);rintro e w1 ⟨A1,c1,S1,rfl,HO1,HAP,HS1,F1⟩;have hc63:=HO1.out.cap.2;have hc62:=HO1.out.cap.1;unfold maxLen at hc63;obtain ⟨g,cur,rfl,hgb,hgw,EG,hcs,hSg,HRW⟩:=own_some HO1.out (by omega);obtain ⟨b0,b1,b2,b3,q0,q1,q2,q3,bf0,bf1,bf2,bf3,qf0,qf1,qf2,qf3⟩:=F1.out.cells;have F2:=Lib.hid (F1.out.setBox (.slice (some ⟨g,0,none⟩) n c1) (.int .i64 room) (.int .i64 fuse) (.bool down)))
    |((with_reducible refine (HFD.out _ _ _ _ _ _ _ _ _ _ _ _ _ F2.out HO1.out HS1.out).mono ?_);rintro e w2 ⟨rfl,hg2⟩;have F3:=Lib.hid (F2.out.below hg2);obtain ⟨bb0,bb1,bb2,bb3,qq0,qq1,qq2,qq3,bbf0,bbf1,bbf2,bbf3,qqf0,qqf1,qqf2,qqf3⟩:=F3.out.cells;obtain ⟨Ad,nd,cd,x0,x1,x2,x3,x4,x5,x6,x7,x8⟩:=HRW.out.at_ HPL.out;have x6':=x6.out;obtain rfl:nd=f.data.length:=x6'.symm;have EG3:=Lib.hid ((F3.out.same g hgb hgw).trans EG.out);obtain ⟨z1,zf1⟩:=block_cell EG3.out (p * 3+1) _ x1;clear x6')
    |((with_reducible refine (HSP.out _ _ _).mono ?_);rintro e w4 ⟨rfl,hg4⟩;have F4:=Lib.hid (F3.out.below hg4);obtain ⟨cb0,cb1,cb2,cb3,cq0,cq1,cq2,cq3,cbf0,cbf1,cbf2,cbf3,cqf0,cqf1,cqf2,cqf3⟩:=F4.out.cells))
   have F5:=Lib.hid (F4.out.setBox (.slice (some ⟨g,0,none⟩) n c1) (.int .i64 room) (.int .i64 f2) (.bool down))
   have EG5:=Lib.hid ((F5.out.same g hgb hgw).trans EG.out)
   have HO5:=Lib.hid (F5.out.own HO1.out (Nat.le_refl _) HS1.out)
   obtain ⟨db0,db1,db2,db3,dq0,dq1,dq2,dq3,dbf0,dbf1,dbf2,dbf3,dqf0,dqf1,dqf2,dqf3⟩:=F5.out.cells
   obtain ⟨y1,yf1⟩:=block_cell EG5.out (p * 3+1) _ x1
   rw [HS.out] at x2
   obtain ⟨y2,yf2⟩:=block_cell EG5.out (p * 3+2) _ x2
   have hsz5:=F5.out.size
   have HX0:=Lib.hid x0
   have HX5:=Lib.hid x5
   have hc3:p * 3+2 < cur.size:=by rw [hcs];omega
   unfold maxLen at x8
   have hcd:(m:Int)≤(cd:Int):=by omega
   have hcd2:m≤cd:=by omega
   have hne0:w.heap.size≠g:=by omega
   have hne1:w.heap.size+1≠g:=by omega
   clear x0 x1 x2 x5 z1 zf1 cb0 cb1 cb2 cb3 cq0 cq1 cq2 cq3 cbf0 cbf1 cbf2 cbf3 cqf0 cqf1 cqf2 cqf3 bb0 bb1 bb2 bb3 qq0 qq1 qq2 qq3 bbf0 bbf1 bbf2 bbf3 qqf0 qqf1 qqf2 qqf3 b0 b1 b2 b3 q0 q1 q2 q3 bf0 bf1 bf2 bf3 qf0 qf1 qf2 qf3 hg4 hg2 HFD HSP HCP
   generalize ((((w4.setCell ⟨w.heap.size,0,none⟩ (.slice (some ⟨g,0,none⟩) n c1)).setCell ⟨w.heap.size,1,none⟩ (.int .i64 room)).setCell ⟨w.heap.size,2,none⟩ (.int .i64 f2)).setCell ⟨w.heap.size,3,none⟩ (.bool down))=w5 at *
   go_still_tail 13,(by kernel_rfl)
   change wpList _ _ _ _ _ w5.drew
   go_wp2
   have F6:=Lib.hid (F5.out.setOwn (g:=g) (i:=p * 3+1) hgb (.slice Ad m cd)).drew.rebase
   have e6:=heap_setCell_same w5 g (p * 3+1) _ _ (.slice Ad m cd) EG5.out
   have EG6:Hid ((w5.setCell ⟨g,p * 3+1,none⟩ (.slice Ad m cd)).drew.heap[g]?=some (.cells (cur.setIfInBounds (p * 3+1) (.slice Ad m cd)) 79 (0,0))):=Lib.hid e6
   obtain ⟨eb0,eb1,eb2,eb3,eq0,eq1,eq2,eq3,ebf0,ebf1,ebf2,ebf3,eqf0,eqf1,eqf2,eqf3⟩:=F6.out.cells
   obtain ⟨v1,vf1⟩:=block_cell EG6.out (p * 3+1) (.slice Ad m cd) (set_cell_self _ (by omega))
   obtain ⟨v2,vf2⟩:=block_cell EG6.out (p * 3+2) (.int .i64 (s:Int)) (by rw [set_cell _ (by omega)];exact (cell_of_row w5 g _ _ _ _ EG5.out).symm.trans y2)
   have HAL:Hid (∀ b,S1 b→(w5.setCell ⟨g,p * 3+1,none⟩ (.slice Ad m cd)).drew.heap[b]?=w1.heap[b]?):=Lib.hid (fun b hSb=>by
    have hne:b≠g:=fun e=>hSg (e▸hSb)
    exact (Below.heap_setCell _ _ _ _ hne).trans (F5.out.same b (HS1.out b hSb).1 (HS1.out b hSb).2))
   have hsz6:(w5.setCell ⟨g,p * 3+1,none⟩ (.slice Ad m cd)).drew.heap.size=w5.heap.size:=by simp [World.setCell]
   clear db0 db1 db2 db3 dq0 dq1 dq2 dq3 dbf0 dbf1 dbf2 dbf3 dqf0 dqf1 dqf2 dqf3 y1 yf1 y2 yf2 e6
   generalize hw6:(w5.setCell ⟨g,p * 3+1,none⟩ (.slice Ad m cd)).drew=w6 at *
   clear hw6
   have hmin:(m < s∧m=t)∨(s≤m∧s=t):=by
    by_cases h:m < s
    ·rw [if_pos h] at ht;exact .inl ⟨h,ht⟩
    ·rw [if_neg h] at ht;exact .inr ⟨by omega,ht⟩
   clear ht
   have HFIN:Hid (OwnF (w6.drew.setCell ⟨g,p * 3+2,none⟩ (.int .i64 (t:Int))) (w.heap.size+2) 79 S1 (some ⟨g,0,none⟩) n c1 (fs.set p { f with data:=f.data.take m,sure:=(t:Int) })):=Lib.hid (by
    have hAL:∀ b,S1 b→(w6.drew.setCell ⟨g,p * 3+2,none⟩ (.int .i64 (t:Int))).heap[b]?=w1.heap[b]?:=fun b hSb=>by
     have hne:b≠g:=fun e=>hSg (e▸hSb)
     exact (Below.heap_setCell _ _ _ _ hne).trans (HAL.out b hSb)
    refine own_set (v:=.slice Ad m cd) HN.out hc62 hc63 hgb HRW.out hSg (heap_setCell_same w6.drew g _ _ _ _ EG6.out) (by simpa using hcs) (fun b o hSb=>World.cell?_of_block (hAL b hSb)) (fun i hi=>by rw [set_cell _ (by omega),set_cell _ (by omega)]) ⟨?_,?_,?_,x3,?_⟩ ⟨Ad,m,cd,rfl,?_,?_,hcd2,by unfold maxLen;omega⟩
    ·rw [set_cell _ (by omega),set_cell _ (by omega)];exact HX0.out
    ·rw [set_cell _ (by omega)];exact set_cell_self _ (by omega)
    ·exact set_cell_self _ (by simp;omega)
    ·show (Lit.int .i64 (t:Int)).wf=true
     exact WalkArith.wf_i64 (by omega)
    ·exact IntsIn.keep (bys_take' HX5.out m) (fun b o hSb=>World.cell?_of_block (hAL b hSb)) (fun _ h=>h)
    ·show (f.data.take m).length=m
     rw [List.length_take];omega)
   have F7:=Lib.hid ((F6.out.drew.setOwn (g:=g) (i:=p * 3+2) hgb (.int .i64 (t:Int))).setRes (.slice (some ⟨g,0,none⟩) n c1) (.int .i64 room) (.int .i64 f2) (.bool down))
   rcases hmin with ⟨hmin,rfl⟩ | ⟨hmin,rfl⟩
   all_goals
    go_still_tail 13,(by kernel_rfl)
    change wpList _ _ _ _ _ w6.drew
    go_wp2
    refine bodyPost_ret (v:=.tuple #[.agg #[.slice (some ⟨g,0,none⟩) n c1,.int .i64 room,.int .i64 f2,.bool down],.int .i64 0]) (by simp [results,Tryz.results93,go_sem,eq0,eq1,eq2,eq3]) rfl ?_
    rw [HR2.out]
    exact F7.out.ret (F7.out.own HFIN.out (Nat.le_refl _) (fun b hb=>by have:=HS1.out b hb;simp [World.setCell];omega)) (by omega) (fun b hb=>by have:=HS1.out b hb;have:=F7.out.size;simp [World.setCell] at this ⊢;omega) _ _ _ _
end Go.Proofs.YtalhdalinpdanaaGreatDoor.disk
end
