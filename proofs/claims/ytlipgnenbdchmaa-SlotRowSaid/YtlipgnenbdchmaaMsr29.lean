/-
  DiskImpl7
-/
import Derived.Test.YtlipgnenbdchmaaMsr26
import Derived.Test.YtlipgnenbdchmaaMsr27
import Derived.Test.YtlipgnenbdchmaaMsr28
import Derived.StillTailTactics
set_option linter.unusedVariables false
set_option linter.unusedSimpArgs false
namespace Go.Proofs.Ytlipgnenbdchmaa.disk
set_option maxRecDepth 20000
open Go.RowKit
theorem dcopy_fr (A:Option Addr) (n c:Nat) (room fuse:Int) (down:Bool) (fs:List FileD) (S:Nat→Prop) (w:World) (hS:∀ b,S b→b < w.heap.size) (hf:FilesIn w S A fs) (hn:fs.length=n) (hnc:n≤c) (hcm:c≤maxLen) (hsh:shortB fs=true) :
  Calls Try.prog 39 #[.agg #[.slice A n c,.int .i64 room,.int .i64 fuse,.bool down]] ((w.alloc (.cells #[.slice A n c,.int .i64 room,.int .i64 fuse,.bool down] 24)).alloc (.cells #[.slice none 0 0,.int .i64 0,.int .i64 0,.bool false] 24)) fun e w1 =>
   ∃ A1 c1,∃ S1:Nat→Prop,e = .returned (.agg #[.slice A1 n c1,.int .i64 room,.int .i64 fuse,.bool down])∧Hid (OwnF w1 (w.heap.size+2) 51 S1 A1 n c1 fs)∧Hid (Apart w1 (w.heap.size+2) 5 S1 A1 fs)∧Hid (∀ b,S1 b→w.heap.size+2≤b∧b < w1.heap.size) ∧
    Hid (DFr 24 w w1 w1 (.slice A n c) (.int .i64 room) (.int .i64 fuse) (.bool down) (.slice none 0 0) (.int .i64 0) (.int .i64 0) (.bool false)):=by
 obtain ⟨k0,k1⟩:=two_blocks w #[.slice A n c,.int .i64 room,.int .i64 fuse,.bool down] #[.slice none 0 0,.int .i64 0,.int .i64 0,.bool false] 24 24
 have hB:∀ o1 o2,Below w.heap.size w ((w.alloc o1).alloc o2):=fun o1 o2=>((Below.refl _ _).alloc (Nat.le_refl _) o1).alloc (by simp) o2
 have hus:=used_short hsh
 have h:=dcopied A n c room fuse down fs S _ (fun b hb=>by have:=hS b hb;rw [size_two];omega) (hf.below hS (hB (.cells #[.slice A n c,.int .i64 room,.int .i64 fuse,.bool down] 24) (.cells #[.slice none 0 0,.int .i64 0,.int .i64 0,.bool false] 24))) hn hnc hcm (by omega) (fun f hf=>by have:=used_mem hf;omega)
 refine h.mono fun e w1 ⟨A1,c1,S1,h1,h2,h3,h4,h5⟩=>?_
 rw [size_two] at h2 h3
 have h4':=h4.out
 rw [size_two] at h4' h5
 have hsz:=h5.size
 rw [size_two] at hsz
 exact ⟨A1,c1,S1,h1,Lib.hid h2,Lib.hid h3,Lib.hid h4',Lib.hid ⟨(hB _ _).trans (h5.mono (by omega)),(h5.block _ (by omega)).trans k0,(h5.block _ (by omega)).trans k1,Nat.le_refl _,hsz,fun _ _ _=>rfl⟩⟩
theorem fr_reads {T TF:TypeId} {w w1 W:World} {d0 d1 d2 d3 r0 r1 r2 r3:Value} {A:Option Addr} {n c:Nat} {fs:List FileD} {S1:Nat→Prop} (h:DFr T w w1 W d0 d1 d2 d3 r0 r1 r2 r3) (ho:OwnF w1 (w.heap.size+2) TF S1 A n c fs) (hS:∀ b,S1 b→w.heap.size+2≤b∧b < w1.heap.size):FilesIn W (Lt W.heap.size) A fs :=
 (h.own ho (Nat.le_refl _) hS).all (fun b hb=>by have:=hS b hb;have:=h.size;omega)
def mixF (ks:List Int) (fs:List FileD) (k:Nat):List FileD:=(backF ks fs).take k++fs.drop k
theorem mix_get {ks:List Int} {fs:List FileD} {k:Nat} (hk:k < fs.length):(mixF ks fs k)[k]?=fs[k]?:=by
 unfold mixF
 rw [List.getElem?_append_right (by rw [List.length_take];omega),List.length_take,back_len,show k - min k fs.length=0 by omega,List.getElem?_drop]
 simp
theorem mix_set {ks:List Int} {fs:List FileD} {k:Nat} {f:FileD} (hk:fs[k]?=some f):(mixF ks fs k).set k (keptOf ks k f)=mixF ks fs (k+1):=by
 obtain ⟨hl,rfl⟩:=List.getElem?_eq_some_iff.1 hk
 unfold mixF
 rw [List.set_append_right _ _ (by rw [List.length_take];omega),List.length_take,back_len,show k - min k fs.length=0 by omega,List.drop_eq_getElem_cons hl,List.set_cons_zero,List.take_add_one,back_get,hk]
 simp
theorem mix_zero (ks:List Int) (fs:List FileD):mixF ks fs 0=fs:=by unfold mixF;simp
theorem mix_all (ks:List Int) (fs:List FileD):mixF ks fs fs.length=backF ks fs:=by
 unfold mixF
 rw [List.take_of_length_le (by rw [back_len];exact Nat.le_refl _),List.drop_of_length_le (Nat.le_refl _),List.append_nil]
theorem left_eq (ks:List Int) (k:Nat) (f:FileD) {s tl:Nat} (hs:f.sure=(s:Int)) (hd:f.data.length=s+tl):leftOf ks k f=leftN ks k tl∧leftN ks k tl≤tl:=by
 unfold leftOf leftN
 rw [hs,hd]
 refine ⟨?_,Nat.min_le_right _ _⟩
 congr 1
 simp
set_option maxHeartbeats 6000000 in
theorem dback (A:Option Addr) (n c:Nat) (room fuse:Int) (down:Bool) (Ak:Option Addr) (nk ck:Nat) (fz:Int) (ks:List Int) (fs:List FileD) (r:DiskD × Int) (S:Nat→Prop) (w:World) (hS:∀ b,S b→b < w.heap.size) (hf:FilesIn w S A fs) (hn:fs.length=n) (hnc:n≤c) (hcm:c≤maxLen) (hr:inI room) (hfu:inI fuse) (hsh:shortB fs=true) (hk:IntsIn .i64 w S Ak ks) (hkn:ks.length=nk) (hkc:nk≤ck) (hkm:ck≤maxLen) (hkl:nk≤80) (hfz:inI fz) (hv:backD ⟨fs,room,fuse,down⟩ ks fz=r) :
  Calls Try.prog 21 #[.agg #[.slice A n c,.int .i64 room,.int .i64 fuse,.bool down],.slice Ak nk ck,.int .i64 fz] w (RetOp S w r):=by
 have HCP:=Lib.hid (dcopy_fr A n c room fuse down fs S w hS hf hn hnc hcm hsh)
 have hus:=used_short hsh
 obtain ⟨v,hv'⟩:∃ v,rightB ⟨fs,room,fuse,down⟩=v:=⟨_,rfl⟩
 have HN:=Lib.hid hn
 have HRI:Hid (∀ (A1:Option Addr) (c1:Nat) (S1:Nat→Prop) (w1 W:World) (d0 d1 d2 d3 r0 r1 r2 r3:Value),DFr 24 w w1 W d0 d1 d2 d3 r0 r1 r2 r3→OwnF w1 (w.heap.size+2) 51 S1 A1 n c1 fs→(∀ b,S1 b→w.heap.size+2≤b∧b < w1.heap.size) →
   Calls Try.prog 40 #[.agg #[.slice A1 n c1,.int .i64 room,.int .i64 fuse,.bool down]] W fun e w'=>e = .returned (.bool v)∧Below W.heap.size W w') :=
  Lib.hid (fun A1 c1 S1 w1 W d0 d1 d2 d3 r0 r1 r2 r3 h ho hs=>dright0 A1 n c1 room fuse down fs v (Lt W.heap.size) W (fun _ h=>h) (fr_reads h ho hs) hn ho.cap.1 ho.cap.2 hr hfu (by omega) hv')
 have HK:Hid (∀ W,Below w.heap.size w W→Ints .i64 W W.heap.size Ak ks):=Lib.hid (fun W h=>(ints_in.2 (hk.keep (below_alikeS h hS) (fun b hb=>Nat.lt_of_lt_of_le (hS b hb) h.size))))
 have HKN:=Lib.hid hkn
 have HV:=Lib.hid hv'
 have HR:=Lib.hid hv
 have HUS:=Lib.hid hus
 unfold inI at hfz hr hfu
 clear hf hn hnc hcm hsh hk hkn hkc hkm hv hv' hus hS
 by_cases hbad:v=true ∧ -1≤fz
 case neg =>
  have HR2:Hid (r=(⟨fs,room,fuse,down⟩,1)):=Lib.hid (by rw [← HR.out];unfold backD;rw [if_neg (by rw [HV.out];exact hbad)])
  have hcase:v=false∨(v=true∧fz < -1):=by cases v<;>simp at hbad ⊢;omega
  clear hbad HV
  rcases hcase with rfl | ⟨rfl,hz⟩
  all_goals
   go_enter Try.func21,Try.ntmps21
   go_wp2_with (first
    |((with_reducible refine HCP.out.mono ?_);rintro e w1 ⟨A1,c1,S1,rfl,HO1,HAP,HS1,F1⟩;obtain ⟨b0,b1,b2,b3,q0,q1,q2,q3,bf0,bf1,bf2,bf3,qf0,qf1,qf2,qf3⟩:=F1.out.cells;have F2:=Lib.hid (F1.out.setBox (.slice A1 n c1) (.int .i64 room) (.int .i64 fuse) (.bool down)))
    |((with_reducible refine (HRI.out _ _ _ _ _ _ _ _ _ _ _ _ _ F2.out HO1.out HS1.out).mono ?_);rintro e w2 ⟨rfl,hg2⟩;have F3:=Lib.hid (F2.out.below hg2);obtain ⟨bb0,bb1,bb2,bb3,qq0,qq1,qq2,qq3,bbf0,bbf1,bbf2,bbf3,qqf0,qqf1,qqf2,qqf3⟩:=F3.out.cells))
   refine bodyPost_ret (v:=.tuple #[.agg #[.slice A1 n c1,.int .i64 room,.int .i64 fuse,.bool down],.int .i64 1]) (by simp [results,Try.results21,go_sem,qq0,qq1,qq2,qq3]) rfl ?_
   rw [HR2.out]
   have F4:=F3.out.setRes (.slice A1 n c1) (.int .i64 room) (.int .i64 fuse) (.bool down)
   exact F4.ret (F4.own HO1.out (Nat.le_refl _) HS1.out) (by omega) (fun b hb=>by have:=HS1.out b hb;have:=F4.size;omega) _ _ _ _
 obtain ⟨rfl,hz⟩:=hbad
 have HR2:Hid (r=(⟨backF ks fs,room,fz,false⟩,0)):=Lib.hid (by rw [← HR.out];unfold backD;rw [if_pos ⟨HV.out,hz⟩])
 have HOK:Hid (∀ f ∈ fs,0≤f.sure∧f.sure≤(f.data.length:Int)∧f.data.length≤65536):=Lib.hid (fun f hm=>((file_iff f).1 ((right_files HV.out).2.1 f hm)).2)
 go_enter Try.func21,Try.ntmps21
 go_wp2_with (first
  |((with_reducible refine HCP.out.mono ?_);rintro e w1 ⟨A1,c1,S1,rfl,HO1,HAP,HS1,F1⟩;obtain ⟨b0,b1,b2,b3,q0,q1,q2,q3,bf0,bf1,bf2,bf3,qf0,qf1,qf2,qf3⟩:=F1.out.cells;have F2:=Lib.hid (F1.out.setBox (.slice A1 n c1) (.int .i64 room) (.int .i64 fuse) (.bool down)))
  |((with_reducible refine (HRI.out _ _ _ _ _ _ _ _ _ _ _ _ _ F2.out HO1.out HS1.out).mono ?_);rintro e w2 ⟨rfl,hg2⟩;have F3:=Lib.hid (F2.out.below hg2);obtain ⟨bb0,bb1,bb2,bb3,qq0,qq1,qq2,qq3,bbf0,bbf1,bbf2,bbf3,qqf0,qqf1,qqf2,qqf3⟩:=F3.out.cells))
 have HO3:=Lib.hid (F3.out.own HO1.out (Nat.le_refl _) HS1.out)
 have hcap:=HO1.out.cap
 have hn70:n≤70:=by rw [← HN.out];exact HUS.out.2
 have hsz13:=F3.out.size
 clear b0 b1 b2 b3 q0 q1 q2 q3 bf0 bf1 bf2 bf3 qf0 qf1 qf2 qf3 F2 F1 hg2 HCP HRI
 by_cases h0:n=0
 ·subst h0
  have hfs:fs=[]:=List.eq_nil_of_length_eq_zero HN.out
  subst hfs
  go_loopw [23] (fun i wr=>i = .int .i64 0∧wr=w2) (fun _ _=>0)
  case atStart=>exact ⟨rfl,rfl⟩
  case round =>
   obtain ⟨rfl,rfl⟩:=hrel
   go_wp2
   refine bodyPost_ret (v:=.tuple #[.agg #[.slice A1 0 c1,.int .i64 room,.int .i64 fz,.bool false],.int .i64 0]) (by simp [results,Try.results21,go_sem,qq0,qq1,qq2,qq3]) rfl ?_
   rw [HR2.out]
   have F4:=((F3.out.set3 (.bool false)).set2 (.int .i64 fz)).setRes (.slice A1 0 c1) (.int .i64 room) (.int .i64 fz) (.bool false)
   exact F4.ret (F4.own HO1.out (Nat.le_refl _) HS1.out) (by omega) (fun b hb=>by have:=HS1.out b hb;have:=F4.size;omega) _ _ _ _
 ·rcases HO3.out.2.2.2 with ⟨_,h,_⟩ | ⟨g,cur0,rfl,hgb,eg0,hcs0,hSg,hrow0⟩
  ·omega
  have hI0:Hid (∃ cur,DFr 24 w w2 w2 (.slice (some ⟨g,0,none⟩) n c1) (.int .i64 room) (.int .i64 fuse) (.bool down) (.slice none 0 0) (.int .i64 0) (.int .i64 0) (.bool false)∧w2.heap[g]?=some (.cells cur 51 (0,0))∧cur.size=c1 * 3∧RowAt w2 S1 cur (mixF ks fs 0)∧w2.heap.size≤w2.heap.size) :=
   Lib.hid ⟨cur0,F3.out.rebase,eg0,hcs0,by rw [mix_zero];exact hrow0,Nat.le_refl _⟩
  clear eg0 hcs0 hrow0 bb0 bb1 bb2 bb3 qq0 qq1 qq2 qq3 bbf0 bbf1 bbf2 bbf3 qqf0 qqf1 qqf2 qqf3 HO3
  have hn1:=hcap.1
  have hm1:=hcap.2
  unfold maxLen at hm1
  clear hcap
  go_loopw [23] (fun i wr => ∃ k:Nat,k≤n∧i = .int .i64 k∧Hid (∃ cur,DFr 24 w wr wr (.slice (some ⟨g,0,none⟩) n c1) (.int .i64 room) (.int .i64 fuse) (.bool down) (.slice none 0 0) (.int .i64 0) (.int .i64 0) (.bool false)∧wr.heap[g]?=some (.cells cur 51 (0,0))∧cur.size=c1 * 3∧RowAt wr S1 cur (mixF ks fs k)∧w2.heap.size≤wr.heap.size)) (fun i _=>n - (intOf i).toNat)
  case atStart=>exact ⟨0,Nat.zero_le _,rfl,hI0⟩
  case round =>
   obtain ⟨k,hk,rfl,HI⟩:=hrel
   obtain ⟨cur,fr,eg,hcs,hrow,hsz⟩:=HI.out
   obtain ⟨b0,b1,b2,b3,q0,q1,q2,q3,bf0,bf1,bf2,bf3,qf0,qf1,qf2,qf3⟩:=fr.cells
   have FR:=Lib.hid fr
   have EG:=Lib.hid eg
   have HRW:=Lib.hid hrow
   clear hI0 HI fr
   by_cases hlt:k < n
   ·have hkf:k < fs.length:=by rw [HN.out];exact hlt
    obtain ⟨f,hf⟩:∃ f,fs[k]?=some f:=⟨_,List.getElem?_eq_getElem hkf⟩
    obtain ⟨Ad,nd,cd,x0,x1,x2,x3,x4,x5,x6,x7,x8⟩:=hrow.at_ ((mix_get hkf).trans hf)
    obtain ⟨o1,o2,o3⟩:=HOK.out f (List.mem_of_getElem? hf)
    rw [x6.out] at o2 o3
    obtain ⟨s,hs⟩:∃ s:Nat,f.sure=(s:Int):=⟨f.sure.toNat,by omega⟩
    obtain ⟨tl,rfl⟩:∃ tl,nd=s+tl:=⟨nd - s,by omega⟩
    rw [hs] at x2
    obtain ⟨l,hl⟩:∃ l,leftN ks k tl=l:=⟨_,rfl⟩
    have hll:l≤tl:=by rw [← hl];exact (left_eq ks k f hs x6.out).2
    have HLE:Hid (leftOf ks k f=l):=Lib.hid (by rw [← hl];exact (left_eq ks k f hs x6.out).1)
    have HLF:Hid (Calls Try.prog 41 #[.int .i64 (tl:Nat),.slice Ak nk ck,.int .i64 (k:Nat)] wr.drew fun e w''=>e = .returned (.int .i64 (l:Nat))∧w''=wr.drew) :=
     Lib.hid (dleft tl k Ak nk ck ks l wr.drew (HK.out _ (FR.out.low.drew)) HKN.out (by omega) (by omega) (by omega) hl)
    obtain ⟨z1,zf1⟩:=block_cell eg (k * 3+1) _ x1
    obtain ⟨z2,zf2⟩:=block_cell eg (k * 3+2) _ x2
    have HSE:=Lib.hid hs
    have HX0:=Lib.hid x0
    have HF:=Lib.hid hf
    have HX5:=Lib.hid x5
    have hc3:k * 3+2 < cur.size:=by rw [hcs];omega
    have hw1:IntKind.i64.wrap ((s:Int)+(l:Int))=(s:Int)+(l:Int):=by rw [IntKind.wrap_i64];omega
    have hw2:IntKind.i64.wrap ((s:Int)+(tl:Int) - (s:Int))=(tl:Int):=by rw [IntKind.wrap_i64];omega
    have hb1:(0:Int)≤(s:Int)+(l:Int):=by omega
    have hb2:((s:Int)+(l:Int)).toNat=s+l:=by omega
    have hb3:(s:Int)+(l:Int)≤(cd:Int):=by omega
    have hb4:s+l≤cd:=by omega
    unfold maxLen at x8
    clear x0 x1 x2 x5 hs hf hrow eg hl o1
    go_wp2
    go_still_tail 26,(by kernel_rfl)
    still_call HLF.out
    repeat still_step
    refine wpStill_nil ?_
    change wpList _ _ _ _ _ wr.drew
    go_wp2
    go_roundw
    case rel =>
     have hd:(keptOf ks k f).data=f.data.take (s+l):=by unfold keptOf;rw [HLE.out,HSE.out];simp
     have hu:(keptOf ks k f).sure=(s:Int)+(l:Int):=by unfold keptOf;rw [HLE.out,HSE.out]
     have e1:=heap_setCell_same wr.drew g (k * 3+1) _ _ (.slice Ad (s+l) cd) EG.out
     have e2:=heap_setCell_same _ g (k * 3+2) _ _ (.int .i64 ((s:Int)+(l:Int))) e1
     refine ⟨k+1,by omega,by go_num,Lib.hid ⟨_,(FR.out.drew.setOwn (by omega) _).setOwn (by omega) _,e2,by simpa using hcs,?_,by simp [World.setCell];omega⟩⟩
     rw [← mix_set HF.out]
     refine HRW.out.set (fun b o hSb=>World.cell?_of_block ?_) (fun i hi=>by rw [set_cell _ (by omega),set_cell _ (by omega)]) (v:=.slice Ad (s+l) cd) ⟨?_,?_,?_,x3,?_⟩ ⟨Ad,s+l,cd,rfl,?_,?_,hb4,by unfold maxLen;omega⟩
     ·have hne:b≠g:=fun e=>hSg (e▸hSb)
      exact (Below.heap_setCell _ _ _ _ hne).trans (Below.heap_setCell _ _ _ _ hne)
     ·rw [set_cell _ (by omega),set_cell _ (by omega)];exact HX0.out
     ·rw [set_cell _ (by omega)];exact set_cell_self _ (by omega)
     ·rw [hu];exact set_cell_self _ (by simp;omega)
     ·rw [hu];exact WalkArith.wf_i64 (by omega)
     ·rw [hd]
      refine IntsIn.keep (bys_take' HX5.out (s+l)) (fun b o hSb=>World.cell?_of_block ?_) (fun _ h=>h)
      have hne:b≠g:=fun e=>hSg (e▸hSb)
      exact (Below.heap_setCell _ _ _ _ hne).trans (Below.heap_setCell _ _ _ _ hne)
     ·rw [hd,List.length_take,x6.out];omega
    case measure=>first | (simp [intOf];done) | (simp [intOf];omega)
   ·obtain rfl:k=n:=by omega
    have HRW2:Hid (RowAt wr S1 cur (backF ks fs)):=Lib.hid (by have:=HRW.out;rw [← HN.out,mix_all] at this;exact this)
    have hbl:Hid (∀ b,S1 b→b < w2.heap.size):=Lib.hid (fun b hb=>by have:=HS1.out b hb;omega)
    clear hrow HRW eg
    go_wp2
    refine bodyPost_ret (v:=.tuple #[.agg #[.slice (some ⟨g,0,none⟩) k c1,.int .i64 room,.int .i64 fz,.bool false],.int .i64 0]) (by simp [results,Try.results21,go_sem,q0,q1,q2,q3]) rfl ?_
    rw [HR2.out]
    have F4:=((FR.out.set3 (.bool false)).set2 (.int .i64 fz)).setRes (.slice (some ⟨g,0,none⟩) k c1) (.int .i64 room) (.int .i64 fz) (.bool false)
    have HO4:OwnF wr (w.heap.size+2) 51 S1 (some ⟨g,0,none⟩) k c1 (backF ks fs):=⟨by rw [back_len];exact HN.out,hn1,by unfold maxLen;omega,.inr ⟨g,cur,rfl,hgb,EG.out,hcs,hSg,HRW2.out⟩⟩
    exact F4.ret (F4.own HO4 (Nat.le_refl _) (fun b hb=>by have:=HS1.out b hb;omega)) (by omega) (fun b hb=>by have:=HS1.out b hb;have:=F4.size;omega) _ _ _ _
end Go.Proofs.Ytlipgnenbdchmaa.disk
