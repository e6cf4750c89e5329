/-
  ScanRefS, ScanLaw
-/
import Derived.Test.YtepfmpmphcndjaaGreatDoorMwo25
import Derived.Test.YtepfmpmphcndjaaGreatDoorMwo33
import Derived.Deep.DeepCutAuto
import Derived.Deep.DrawnRows
import Derived.Deep.RegionLaw
import Derived.BigRegion
set_option linter.unusedVariables false
set_option linter.unusedSimpArgs false
section
namespace Go.Proofs.YtepfmpmphcndjaaGreatDoor.scan
set_option maxRecDepth 20000
open Go.RowKit Go.Proofs.YtepfmpmphcndjaaGreatDoor Go.Proofs.YtepfmpmphcndjaaGreatDoor.frame
attribute [local go_sem] undef
attribute [local go_sem ↓] Go.wp_at_zero Go.wp_at_succ
theorem step_append_runG {P:Program} {ops:Array Oper} {o:Oper} {a:Act} {w:World} {K:Act→World→Prop} {Q:Exit→Act→World→Prop} {E:Prop}
  (hw:Region.wanted o (yielded ops a.tmps)=true) (s x:Operand) (t:TypeId) (hop:o.op=Op.call { callee:=Callee.builtin Builtin.append,args:=#[s,x],argTypes:=#[t,t] })
  (v u:Value) (hs:a.eval s=v) (hx:a.eval x=u) {v' : Value} {w' : World} (hr:(Builtin.append_ #[t,t] o.type #[v,u]).run P w = .ok v' w') (hK:K (a.put o.dst v') w') :
  if Region.wanted o (yielded ops a.tmps)=true then Oper.wp P o a w K Q else E:=by
 rw [if_pos hw]
 unfold Oper.wp
 simp [execOp,hop,resolve,invoke,builtin,hs,hx,hr,Result.andThen]
 exact hK
theorem each_frame {w w' : World} {S S' : Nat→Prop} {css:List (List Value)} {l:List Fr} (h:Each rdFrame 9 w S css l):Each rdFrame 9 w' S' css l:=by
 induction css generalizing l with
 |nil=>cases l with
  |nil=>trivial
  |cons _ _=>cases h
 |cons cs css ih=>cases l with
  |nil=>cases h
  |cons x xs=>exact ⟨h.1,h.2.1,ih h.2.2⟩
theorem cells_at {w:World} {g:Nat} {cs:Array Value} {t:TypeId} (h:w.heap[g]?=some (.cells cs t (0,0))) {l:List Value} (he:cs.toList=l) (m:Nat) :
  0 < m→∃ b off,(some ⟨g,0,none⟩:Option Addr)=some ⟨b,off,none⟩∧∀ j c,[l].flatten[j]?=some c→w.cell? ⟨b,off+j,none⟩=some c:=fun _ =>
 ⟨g,0,rfl,fun j c hj=>by
  rw [Nat.zero_add,cell_of_row w g j cs t (0,0) h,← Array.getElem?_toList,he]
  simpa using hj⟩
theorem last_snoc (l:List Fr) (f:Fr) (e:Int):last (l++[f]) e=f.e:=by
 induction l generalizing e with
 |nil=>rfl
 |cons g l ih=>exact ih g.e
theorem row_snoc (l:List Fr) (f:Fr) (n e:Int):row (l++[f]) n e=(row l n e && firstB f (n+l.length) (last l e)):=by
 rw [row_append];simp [row,firstB]
theorem ownNew {w:World} {base:Nat} (hb:base≤w.heap.size):OwnFrs (w.alloc (.cells #[] 72)) base (some ⟨w.heap.size,0,none⟩) 0 0 [] :=
 ⟨[],World.ownsRow_lit (base:=base) (e:=72) (size:=9) w #[] 0 hb (by unfold maxLen;omega) rfl,trivial,rfl⟩
theorem run_cut_at (t e bytes:Nat) (z:Value) (ht:Tryz.prog.underlying t=some (.slice e)) (hinfo:(Tryz.prog.info? e).map (fun i=>(i.zero,i.size,i.bytes))=some (some z,1,bytes)) (b off n c l k:Nat) (hk:0 < k) (x y:Int) (hx:x=(l:Int)) (hy:y=(l:Int)+k) (hc:l+k≤c) (w:World) :
  (Instr.slice t (.slice (some ⟨b,off,none⟩) n c) (some (.int .i64 x)) (some (.int .i64 y)) none).run Tryz.prog w = .ok (.slice (some ⟨b,off+l,none⟩) k (c - l)) w:=by
 subst hx hy
 obtain ⟨i,hi,_,hsz,_⟩:=info_parts hinfo
 have he:Tryz.prog.elem t=e:=by simp [Program.elem,ht]
 rw [run_slice_lh (P:=Tryz.prog) (w:=w) t (some ⟨b,off,none⟩) n c (by rw [he];exact ht) .i64 .i64 (l:Int) ((l:Int)+k) (by omega) (by omega) (by omega),he]
 have h1:((l:Int)+k).toNat=l+k:=by omega
 by_cases h0:l=0
 ·subst h0
  simp [sizeOf,typeInfo,hi,Result.andThen,sliced,hsz,Addr.add,show c≠0 by omega]
 ·simp [sizeOf,typeInfo,hi,Result.andThen,sliced,hsz,Addr.add,h1,show c≠l by omega,h0]
set_option maxRecDepth 100000 in
set_option maxHeartbeats 8000000 in
theorem rscan_any (A:Option Addr) (m c:Nat) (bs:List Nat) (n ep:Int) (w:World) (hx:Bys w w.heap.size A bs) (hm:bs.length=m) (hc:m≤c) (hcm:c≤9223372036854775807) (hmax:m≤100000) :
  Calls Tryz.prog 98 #[.slice A m c,.int .i64 n,.int .i64 ep] w (Scanned (all bs n ep) w):=by
 obtain ⟨R,HR⟩:∃ R,Hid (all bs n ep=R):=⟨_,Lib.hid rfl⟩
 rw [HR.out]
 have HX:=Lib.hid hx
 have hinfo:Hid ((Tryz.prog.info? 72).map (fun i=>(i.zero,i.size,i.bytes))=some (some (.agg #[.int .i64 0,.int .i64 0,.int .i64 0,.int .i64 0,.int .i64 0,.int .i64 0,.int .i64 0,.int .i64 0,.int .i64 0]),9,72)):=Lib.hid (by kernel_rfl)
 have hinfb:Hid ((Tryz.prog.info? 5).map (fun i=>(i.zero,i.size,i.bytes))=some (some (.int .u8 0),1,1)):=Lib.hid (by kernel_rfl)
 have HM:=Lib.hid hm
 clear hx hm
 go_enter Tryz.func98,Tryz.ntmps98
 go_wp2
 go_loopw [8,9] (fun s8 s9 wr => ∃ (A2:Option Addr) (j c2:Nat) (acc:List Fr),s8 = .slice A2 j c2∧s9 = .int .i64 ((j:Int) * 72)∧72 * j≤m ∧
  Hid (OwnFrs wr w.heap.size A2 j c2 acc)∧Hid (acc.length=j)∧Hid (row acc n ep=true)∧Hid (acc++all (bs.drop (72 * j)) (n+j) (last acc ep)=R)∧Below w.heap.size w wr) (fun _ i _=>m - (intOf i).toNat)
 case atStart=>exact ⟨none,0,0,[],rfl,rfl,by omega,Lib.hid OwnElems.nil,Lib.hid rfl,Lib.hid rfl,Lib.hid (by rw [← HR.out];simp [last]),Below.refl _ _⟩
 case round =>
  obtain ⟨A2,j,c2,acc,rfl,rfl,hjm,HO,HL,HRW,HA,hbr⟩:=hrel
  have hw72:IntKind.i64.wrap (72 * (j:Int))=(j:Int) * 72:=by rw [Int.mul_comm];exact IntWalk.i64_in _ (by omega)
  have hj0:(0:Int)≤(j:Int) * 72:=by omega
  have hj1:(j:Int) * 72≤(m:Int):=by omega
  by_cases hlt:(m:Int) - (j:Int) * 72 < 72
  ·have HE:Hid (acc=R):=Lib.hid (by rw [← HA.out,all_short (by rw [List.length_drop,HM.out];omega),List.append_nil])
   go_wp2
   go_ret2
   exact ⟨A2,j,c2,rfl,by rw [← HE.out];exact HO.out,Lib.hid (by rw [← HE.out];exact OwnElems.len HO.out),hbr⟩
  ·have hge:72≤(m:Int) - (j:Int) * 72:=by omega
   clear hlt
   obtain ⟨b,off,x,rfl,_⟩:=HX.out.at_ (j:=0) (by rw [HM.out];omega)
   obtain ⟨d,F,HD⟩:∃ d F,Hid (dec ((bs.drop (72 * j)).take 72)=(d,F)):=⟨_,_,Lib.hid rfl⟩
   have hlt8:∀ x ∈ bs.drop (72 * j),x < 256:=fun x hx=>HX.out.lt x (List.mem_of_mem_drop hx)
   have hfine:F.fine:=by have:=dec_fine (l:=(bs.drop (72 * j)).take 72) (fun x hx=>hlt8 x (List.mem_of_mem_take hx));rw [HD.out] at this;exact this
   have HLT:=Lib.hid hlt8
   clear hlt8
   obtain ⟨e,k,kd,q0,q1,q2,q3,q4,q5⟩:=F
   obtain ⟨o,HOO⟩:∃ o,Hid (off+72 * j=o):=⟨_,Lib.hid rfl⟩
   obtain ⟨c5,HC5⟩:∃ c5,Hid (c - 72 * j=c5):=⟨_,Lib.hid rfl⟩
   have hc5:72≤c5:=by rw [← HC5.out];omega
   have hc5m:c5≤9223372036854775807:=by rw [← HC5.out];omega
   have hsl:∀ W,(Instr.slice 62 (.slice (some ⟨b,off,none⟩) m c) (some (.int .i64 ((j:Int) * 72))) (some (.int .i64 ((j:Int) * 72+72))) none).run Tryz.prog W = .ok (.slice (some ⟨b,o,none⟩) 72 c5) W:=fun W=>by
    rw [← HC5.out,← HOO.out];exact run_cut_at 62 5 1 _ Tryz.underlying62 hinfb.out b off m c (72 * j) 72 (by omega) _ _ (by omega) (by omega) (by omega) W
   have HDC:Hid (∀ W,Below w.heap.size w W→Calls Tryz.prog 127 #[.slice (some ⟨b,o,none⟩) 72 c5] W fun e' w'=>e' = .returned (.tuple #[.agg #[.int .i64 e,.int .i64 k,.int .i64 kd,.int .i64 q0,.int .i64 q1,.int .i64 q2,.int .i64 q3,.int .i64 q4,.int .i64 q5],.int .i64 d])∧Below W.heap.size W w') :=
    Lib.hid (fun W hb=>rdecode_of W (((Bys.from_ HX.out (72 * j)).take 72).below hb |> (HOO.out ▸ ·)) hb.size (by rw [List.length_take,List.length_drop,HM.out];omega) hc5 hc5m HD.out)
   have hs0:IntKind.i64.wrap ((j:Int) * 72+72)=(j:Int) * 72+72:=IntWalk.i64_in _ (by omega)
   have HO':=HO
   clear hc5 hc5m
   go_wp2_with fail
   refine Calls.mono (HDC.out _ hbr) ?_
   rintro e1 w1 ⟨rfl,hb1⟩
   have HB0:=Lib.hid (hbr.trans (hb1.mono hbr.size))
   have HO1:=Lib.hid (ownElems_later keeps_frame HO.out hb1)
   have hsz1:w.heap.size≤w1.heap.size:=HB0.out.size
   clear hb1 HO'
   by_cases hd:d=0
   ·subst hd
    obtain ⟨f,HFF⟩:∃ f,Hid ((⟨e,k,kd,q0,q1,q2,q3,q4,q5⟩:Fr)=f):=⟨_,Lib.hid rfl⟩
    obtain ⟨r,Hr⟩:∃ r,Hid (row (acc++[⟨e,k,kd,q0,q1,q2,q3,q4,q5⟩]) n ep=r):=⟨_,Lib.hid rfl⟩
    have HFN:=Lib.hid hfine
    go_upto_region 6 with fail
    obtain ⟨W0,hW0⟩:∃ x,x=w1.alloc (.cells #[.int .i64 e,.int .i64 k,.int .i64 kd,.int .i64 q0,.int .i64 q1,.int .i64 q2,.int .i64 q3,.int .i64 q4,.int .i64 q5] 72):=⟨_,rfl⟩
    rw [← hW0]
    have HBX:Hid (∀ W,Below W0.heap.size W0 W→W.heap[w1.heap.size]?=some (.cells #[.int .i64 e,.int .i64 k,.int .i64 kd,.int .i64 q0,.int .i64 q1,.int .i64 q2,.int .i64 q3,.int .i64 q4,.int .i64 q5] 72 (0,0))):=Lib.hid (fun W hb=>by rw [hW0] at hb;exact (hb.block _ (by simp)).trans (heap_alloc_new w1 _))
    have HOX:Hid (OwnFrs W0 w.heap.size A2 j c2 acc):=Lib.hid (by rw [hW0];exact HO1.out.alloc keeps_frame (fun _ h=>False.elim h) _)
    have HAC:Hid (∀ W,Below W0.heap.size W0 W→Frs W W0.heap.size A2 acc):=Lib.hid (fun W hb=>(HOX.out.frs).below hb)
    have HBW:Hid (Below w.heap.size w W0):=Lib.hid (by rw [hW0];exact HB0.out.alloc hsz1 _)
    have HROW:Hid (∀ W A36 c36,OwnFrs W W0.heap.size A36 (j+1) c36 (acc++[⟨e,k,kd,q0,q1,q2,q3,q4,q5⟩])→Calls Tryz.prog 35 #[.slice A36 (j+1) c36,.int .i64 n,.int .i64 ep] W fun e w'=>e = .returned (.bool r)∧Below W.heap.size W w'):=Lib.hid (fun W A36 c36 h=>by
     have:=rrow_any A36 (j+1) c36 _ n ep W h.frs h.len (by omega)
     rwa [Hr.out] at this)
    clear hW0 hfine HX HDC
    go_cut [41] (fun s41 wx=>s41 = .bool (!r)∧Below W0.heap.size W0 wx)
    case first =>
     refine wp_region_any (by kernel_rfl) ?_
     change wpAny _ _ _ _ _ _ _ (World.drew _)
     obtain ⟨W1,hW1⟩:∃ x,x=W0.drew:=⟨_,rfl⟩
     rw [← hW1]
     have HB1:Hid (Below W0.heap.size W0 W1):=Lib.hid (by rw [hW1];exact (Below.refl _ _).drew)
     clear hW1
     refine wpAny_take (i:=0) (v:=.int .i64 0) rfl (by kernel_rfl) (by kernel_rfl) (by kernel_rfl) (fun _ _ _ h=>h) (Or.inl ⟨by kernel_rfl,?h0⟩) ?_
     case h0=>(intro w;go_simp)
     go_simp
     refine wpAny_take (i:=1) (v:=.bool false) rfl (by kernel_rfl) (by kernel_rfl) (by kernel_rfl) (fun _ _ _ h=>h) (Or.inl ⟨by kernel_rfl,?h1⟩) ?_
     case h1=>(intro w;go_simp)
     go_simp
     refine wpAny_take (i:=2) (v:=.bool false) rfl (by kernel_rfl) (by kernel_rfl) (by kernel_rfl) (fun _ _ _ h=>h) (Or.inl ⟨by kernel_rfl,?h2⟩) ?_
     case h2=>(intro w;go_simp)
     go_simp
     refine wpAny_take (i:=4) (v:=.slice A2 j c2) rfl (by kernel_rfl) (by kernel_rfl) (by kernel_rfl) (fun _ _ _ h=>h) (Or.inl ⟨by kernel_rfl,?h4⟩) ?_
     case h4=>(intro w;go_simp)
     go_simp
     refine wpAny_take (i:=9) (v:=.int .i64 n) rfl (by kernel_rfl) (by kernel_rfl) (by kernel_rfl) (fun _ _ _ h=>h) (Or.inl ⟨by kernel_rfl,?h9⟩) ?_
     case h9=>(intro w;go_simp)
     go_simp
     refine wpAny_take (i:=10) (v:=.int .i64 ep) rfl (by kernel_rfl) (by kernel_rfl) (by kernel_rfl) (fun _ _ _ h=>h) (Or.inl ⟨by kernel_rfl,?h10⟩) ?_
     case h10=>(intro w;go_simp)
     go_simp
     refine wpAny_ready (rs:=[3,6]) (by kernel_rfl) (by simp) ?_
     refine AllReady.cons rfl (fun K hK=>?_) (AllReady.cons rfl (fun K hK=>?_) AllReady.nil)
     ·go_simp
      refine hK _ _ ?_
      clear hK K
      obtain ⟨W2,hW2⟩:∃ x,x=W1.alloc (.cells #[] 72):=⟨_,rfl⟩
      rw [← hW2]
      have hz1:W0.heap.size≤W1.heap.size:=HB1.out.size
      have HB2:Hid (Below W0.heap.size W0 W2):=Lib.hid (by rw [hW2];exact HB1.out.alloc hz1 _)
      have HO2:Hid (OwnFrs W2 W0.heap.size (some ⟨W1.heap.size,0,none⟩) 0 0 []):=Lib.hid (by rw [hW2];exact ownNew hz1)
      clear hW2
      refine wpAny_ready (rs:=[5,6]) (by kernel_rfl) (by simp) ?_
      refine AllReady.cons rfl (fun K hK=>?_) (AllReady.cons rfl (fun K hK=>?_) AllReady.nil)
      ·obtain ⟨css,he5,hc5⟩:=Elems.each (HAC.out W2 HB2.out)
       have hz2:W0.heap.size≤W2.heap.size:=HB2.out.size
       obtain ⟨A33,c33,W3,hrun,hown,hgr,hat⟩:=run_append_elems (P:=Tryz.prog) keeps_frame leaf_frame (by decide) W0.heap.size 22 22 72 _ 72 Tryz.underlying22 hinfo.out rfl HO2.out (each_frame he5) (fun h=>by obtain ⟨b5,o5,x1,_,x2⟩:=hc5 (by rw [HL.out];exact h);exact ⟨b5,o5,x1,x2⟩) (m:=j) HL.out (c2:=c2) (fun _ h=>h) (fun _ h=>False.elim h) (by unfold maxLen;omega) (by omega) hz2
       refine step_append_runG (by kernel_rfl) _ _ 22 rfl _ _ (by rfl) (by rfl) hrun ?_
       refine hK _ _ ?_
       clear hK K
       have HB3:Hid (Below W0.heap.size W0 W3):=Lib.hid (HB2.out.grown hgr hz2 (fun x hx=>(HO2.out.block x hx).1))
       rw [Nat.zero_add] at hown ⊢
       rw [List.nil_append] at hown
       rw [Nat.zero_add] at hat
       have HO3:Hid (OwnFrs W3 W0.heap.size A33 j c33 acc):=Lib.hid hown
       clear hrun hown hgr hat he5 hc5
       go_simp
       refine wpAny_ready (rs:=[6]) (by kernel_rfl) (by simp) ?_
       refine AllReady.cons rfl (fun K hK=>?_) AllReady.nil
       have hb6:=HBX.out W3 HB3.out
       have y0:W3.cell? ⟨w1.heap.size,0,none⟩=some (.int .i64 e):=(block_cell hb6 0 _ rfl).1
       have y1:W3.cell? ⟨w1.heap.size,1,none⟩=some (.int .i64 k):=(block_cell hb6 1 _ rfl).1
       have y2:W3.cell? ⟨w1.heap.size,2,none⟩=some (.int .i64 kd):=(block_cell hb6 2 _ rfl).1
       have y3:W3.cell? ⟨w1.heap.size,3,none⟩=some (.int .i64 q0):=(block_cell hb6 3 _ rfl).1
       have y4:W3.cell? ⟨w1.heap.size,4,none⟩=some (.int .i64 q1):=(block_cell hb6 4 _ rfl).1
       have y5:W3.cell? ⟨w1.heap.size,5,none⟩=some (.int .i64 q2):=(block_cell hb6 5 _ rfl).1
       have y6:W3.cell? ⟨w1.heap.size,6,none⟩=some (.int .i64 q3):=(block_cell hb6 6 _ rfl).1
       have y7:W3.cell? ⟨w1.heap.size,7,none⟩=some (.int .i64 q4):=(block_cell hb6 7 _ rfl).1
       have y8:W3.cell? ⟨w1.heap.size,8,none⟩=some (.int .i64 q5):=(block_cell hb6 8 _ rfl).1
       go_simp
       refine hK _ _ ?_
       clear hK K
       clear hb6 y0 y1 y2 y3 y4 y5 y6 y7 y8
       refine wpAny_ready (rs:=[7]) (by kernel_rfl) (by simp) ?_
       refine AllReady.cons rfl (fun K hK=>?_) AllReady.nil
       go_simp
       refine hK _ _ ?_
       clear hK K
       obtain ⟨W4,hW4⟩:∃ x,x=W3.alloc (.cells #[.int .i64 e,.int .i64 k,.int .i64 kd,.int .i64 q0,.int .i64 q1,.int .i64 q2,.int .i64 q3,.int .i64 q4,.int .i64 q5] 72):=⟨_,rfl⟩
       rw [← hW4]
       have hz3:W0.heap.size≤W3.heap.size:=HB3.out.size
       have HB4:Hid (Below W0.heap.size W0 W4):=Lib.hid (by rw [hW4];exact HB3.out.alloc hz3 _)
       have HG4:Hid (W4.heap[W3.heap.size]?=some (.cells #[.int .i64 e,.int .i64 k,.int .i64 kd,.int .i64 q0,.int .i64 q1,.int .i64 q2,.int .i64 q3,.int .i64 q4,.int .i64 q5] 72 (0,0))):=Lib.hid (by rw [hW4];exact heap_alloc_new W3 _)
       have hg35:W3.heap.size < W4.heap.size:=cell_block (block_cell HG4.out 0 _ rfl).1
       have HO4:Hid (OwnFrs W4 W0.heap.size A33 j c33 acc):=Lib.hid (by rw [hW4];exact HO3.out.alloc keeps_frame (fun _ h=>False.elim h) _)
       have HE4:Hid (∀ x,(Value.slice A33 j c33).ownBlock=some x→x≠W3.heap.size):=Lib.hid (fun x hx=>by have:=(HO3.out.block x hx).2;omega)
       clear hW4
       refine wpAny_ready (rs:=[8]) (by kernel_rfl) (by simp) ?_
       refine AllReady.cons rfl (fun K hK=>?_) AllReady.nil
       have hz4:W0.heap.size≤W4.heap.size:=HB4.out.size
       obtain ⟨A36,c36,W5,hrun,hown,hgr,hat⟩:=run_append_elems (P:=Tryz.prog) keeps_frame leaf_frame (by decide) W0.heap.size 22 22 72 _ 72 Tryz.underlying22 hinfo.out rfl HO4.out (each_one (R:=rdFrame) rfl (x:=(⟨e,k,kd,q0,q1,q2,q3,q4,q5⟩:Fr)) ⟨rfl,HFN.out⟩) (cells_at HG4.out rfl 1) (m:=1) rfl (c2:=1) (fun _ h=>h) (fun _ h=>False.elim h) (by unfold maxLen;omega) (by omega) hz4
       refine step_append_runG (by kernel_rfl) _ _ 22 rfl _ _ (by rfl) (by rfl) hrun ?_
       refine hK _ _ ?_
       clear hK K
       have HB5:Hid (Below W0.heap.size W0 W5):=Lib.hid (HB4.out.grown hgr hz4 (fun x hx=>(HO4.out.block x hx).1))
       have HO5:Hid (OwnFrs W5 W0.heap.size A36 (j+1) c36 (acc++[⟨e,k,kd,q0,q1,q2,q3,q4,q5⟩])):=Lib.hid hown
       clear hrun hown hgr hat
       go_simp
       refine wpAny_ready (rs:=[11]) (by kernel_rfl) (by simp) ?_
       refine AllReady.cons rfl (fun K hK=>?_) AllReady.nil
       go_simp
       go_wp2_with (refine Calls.mono (HROW.out W5 A36 c36 HO5.out) ?_;rintro e7 W6 ⟨rfl,hb7⟩)
       have HB6:Hid (Below W0.heap.size W0 W6):=Lib.hid (HB5.out.trans (hb7.mono HB5.out.size))
       clear hb7
       refine wpAny_take (i:=12) (v:=.bool (!r)) rfl (by kernel_rfl) (by kernel_rfl) (by kernel_rfl) (fun _ _ _ h=>h) (Or.inl ⟨by kernel_rfl,?h12⟩) ?_
       case h12=>(intro w;go_simp)
       go_simp
       refine wpAny_take (i:=13) (v:=.bool (!r)) rfl (by kernel_rfl) (by kernel_rfl) (by kernel_rfl) (fun _ _ _ h=>h) (Or.inl ⟨by kernel_rfl,?h13⟩) ?_
       case h13=>(intro w;go_simp)
       go_simp
       refine wpAny_done (by kernel_rfl) ?_ _
       go_wp2_with fail
       go_meet
       exact ⟨rfl,HB6.out⟩
      ·have hb6:=HBX.out W2 HB2.out
       have y0:W2.cell? ⟨w1.heap.size,0,none⟩=some (.int .i64 e):=(block_cell hb6 0 _ rfl).1
       have y1:W2.cell? ⟨w1.heap.size,1,none⟩=some (.int .i64 k):=(block_cell hb6 1 _ rfl).1
       have y2:W2.cell? ⟨w1.heap.size,2,none⟩=some (.int .i64 kd):=(block_cell hb6 2 _ rfl).1
       have y3:W2.cell? ⟨w1.heap.size,3,none⟩=some (.int .i64 q0):=(block_cell hb6 3 _ rfl).1
       have y4:W2.cell? ⟨w1.heap.size,4,none⟩=some (.int .i64 q1):=(block_cell hb6 4 _ rfl).1
       have y5:W2.cell? ⟨w1.heap.size,5,none⟩=some (.int .i64 q2):=(block_cell hb6 5 _ rfl).1
       have y6:W2.cell? ⟨w1.heap.size,6,none⟩=some (.int .i64 q3):=(block_cell hb6 6 _ rfl).1
       have y7:W2.cell? ⟨w1.heap.size,7,none⟩=some (.int .i64 q4):=(block_cell hb6 7 _ rfl).1
       have y8:W2.cell? ⟨w1.heap.size,8,none⟩=some (.int .i64 q5):=(block_cell hb6 8 _ rfl).1
       go_simp
       refine hK _ _ ?_
       clear hK K
       clear hb6 y0 y1 y2 y3 y4 y5 y6 y7 y8
       refine wpAny_ready (rs:=[5,7]) (by kernel_rfl) (by simp) ?_
       refine AllReady.cons rfl (fun K hK=>?_) (AllReady.cons rfl (fun K hK=>?_) AllReady.nil)
       ·obtain ⟨css,he5,hc5⟩:=Elems.each (HAC.out W2 HB2.out)
        have hz2:W0.heap.size≤W2.heap.size:=HB2.out.size
        obtain ⟨A33,c33,W3,hrun,hown,hgr,hat⟩:=run_append_elems (P:=Tryz.prog) keeps_frame leaf_frame (by decide) W0.heap.size 22 22 72 _ 72 Tryz.underlying22 hinfo.out rfl HO2.out (each_frame he5) (fun h=>by obtain ⟨b5,o5,x1,_,x2⟩:=hc5 (by rw [HL.out];exact h);exact ⟨b5,o5,x1,x2⟩) (m:=j) HL.out (c2:=c2) (fun _ h=>h) (fun _ h=>False.elim h) (by unfold maxLen;omega) (by omega) hz2
        refine step_append_runG (by kernel_rfl) _ _ 22 rfl _ _ (by rfl) (by rfl) hrun ?_
        refine hK _ _ ?_
        clear hK K
        have HB3:Hid (Below W0.heap.size W0 W3):=Lib.hid (HB2.out.grown hgr hz2 (fun x hx=>(HO2.out.block x hx).1))
        rw [Nat.zero_add] at hown ⊢
        rw [List.nil_append] at hown
        rw [Nat.zero_add] at hat
        have HO3:Hid (OwnFrs W3 W0.heap.size A33 j c33 acc):=Lib.hid hown
        clear hrun hown hgr hat he5 hc5
        go_simp
        refine wpAny_ready (rs:=[7]) (by kernel_rfl) (by simp) ?_
        refine AllReady.cons rfl (fun K hK=>?_) AllReady.nil
        go_simp
        refine hK _ _ ?_
        clear hK K
        obtain ⟨W4,hW4⟩:∃ x,x=W3.alloc (.cells #[.int .i64 e,.int .i64 k,.int .i64 kd,.int .i64 q0,.int .i64 q1,.int .i64 q2,.int .i64 q3,.int .i64 q4,.int .i64 q5] 72):=⟨_,rfl⟩
        rw [← hW4]
        have hz3:W0.heap.size≤W3.heap.size:=HB3.out.size
        have HB4:Hid (Below W0.heap.size W0 W4):=Lib.hid (by rw [hW4];exact HB3.out.alloc hz3 _)
        have HG4:Hid (W4.heap[W3.heap.size]?=some (.cells #[.int .i64 e,.int .i64 k,.int .i64 kd,.int .i64 q0,.int .i64 q1,.int .i64 q2,.int .i64 q3,.int .i64 q4,.int .i64 q5] 72 (0,0))):=Lib.hid (by rw [hW4];exact heap_alloc_new W3 _)
        have hg35:W3.heap.size < W4.heap.size:=cell_block (block_cell HG4.out 0 _ rfl).1
        have HO4:Hid (OwnFrs W4 W0.heap.size A33 j c33 acc):=Lib.hid (by rw [hW4];exact HO3.out.alloc keeps_frame (fun _ h=>False.elim h) _)
        have HE4:Hid (∀ x,(Value.slice A33 j c33).ownBlock=some x→x≠W3.heap.size):=Lib.hid (fun x hx=>by have:=(HO3.out.block x hx).2;omega)
        clear hW4
        refine wpAny_ready (rs:=[8]) (by kernel_rfl) (by simp) ?_
        refine AllReady.cons rfl (fun K hK=>?_) AllReady.nil
        have hz4:W0.heap.size≤W4.heap.size:=HB4.out.size
        obtain ⟨A36,c36,W5,hrun,hown,hgr,hat⟩:=run_append_elems (P:=Tryz.prog) keeps_frame leaf_frame (by decide) W0.heap.size 22 22 72 _ 72 Tryz.underlying22 hinfo.out rfl HO4.out (each_one (R:=rdFrame) rfl (x:=(⟨e,k,kd,q0,q1,q2,q3,q4,q5⟩:Fr)) ⟨rfl,HFN.out⟩) (cells_at HG4.out rfl 1) (m:=1) rfl (c2:=1) (fun _ h=>h) (fun _ h=>False.elim h) (by unfold maxLen;omega) (by omega) hz4
        refine step_append_runG (by kernel_rfl) _ _ 22 rfl _ _ (by rfl) (by rfl) hrun ?_
        refine hK _ _ ?_
        clear hK K
        have HB5:Hid (Below W0.heap.size W0 W5):=Lib.hid (HB4.out.grown hgr hz4 (fun x hx=>(HO4.out.block x hx).1))
        have HO5:Hid (OwnFrs W5 W0.heap.size A36 (j+1) c36 (acc++[⟨e,k,kd,q0,q1,q2,q3,q4,q5⟩])):=Lib.hid hown
        clear hrun hown hgr hat
        go_simp
        refine wpAny_ready (rs:=[11]) (by kernel_rfl) (by simp) ?_
        refine AllReady.cons rfl (fun K hK=>?_) AllReady.nil
        go_simp
        go_wp2_with (refine Calls.mono (HROW.out W5 A36 c36 HO5.out) ?_;rintro e7 W6 ⟨rfl,hb7⟩)
        have HB6:Hid (Below W0.heap.size W0 W6):=Lib.hid (HB5.out.trans (hb7.mono HB5.out.size))
        clear hb7
        refine wpAny_take (i:=12) (v:=.bool (!r)) rfl (by kernel_rfl) (by kernel_rfl) (by kernel_rfl) (fun _ _ _ h=>h) (Or.inl ⟨by kernel_rfl,?h12⟩) ?_
        case h12=>(intro w;go_simp)
        go_simp
        refine wpAny_take (i:=13) (v:=.bool (!r)) rfl (by kernel_rfl) (by kernel_rfl) (by kernel_rfl) (fun _ _ _ h=>h) (Or.inl ⟨by kernel_rfl,?h13⟩) ?_
        case h13=>(intro w;go_simp)
        go_simp
        refine wpAny_done (by kernel_rfl) ?_ _
        go_wp2_with fail
        go_meet
        exact ⟨rfl,HB6.out⟩
       ·go_simp
        refine hK _ _ ?_
        clear hK K
        obtain ⟨W3,hW3⟩:∃ x,x=W2.alloc (.cells #[.int .i64 e,.int .i64 k,.int .i64 kd,.int .i64 q0,.int .i64 q1,.int .i64 q2,.int .i64 q3,.int .i64 q4,.int .i64 q5] 72):=⟨_,rfl⟩
        rw [← hW3]
        have hz2:W0.heap.size≤W2.heap.size:=HB2.out.size
        have HB3:Hid (Below W0.heap.size W0 W3):=Lib.hid (by rw [hW3];exact HB2.out.alloc hz2 _)
        have HG3:Hid (W3.heap[W2.heap.size]?=some (.cells #[.int .i64 e,.int .i64 k,.int .i64 kd,.int .i64 q0,.int .i64 q1,.int .i64 q2,.int .i64 q3,.int .i64 q4,.int .i64 q5] 72 (0,0))):=Lib.hid (by rw [hW3];exact heap_alloc_new W2 _)
        have hg35:W2.heap.size < W3.heap.size:=cell_block (block_cell HG3.out 0 _ rfl).1
        have HO3:Hid (OwnFrs W3 W0.heap.size (some ⟨W1.heap.size,0,none⟩) 0 0 []):=Lib.hid (by rw [hW3];exact HO2.out.alloc keeps_frame (fun _ h=>False.elim h) _)
        have HE3:Hid (∀ x,(Value.slice (some ⟨W1.heap.size,0,none⟩) 0 0).ownBlock=some x→x≠W2.heap.size):=Lib.hid (fun x hx=>by have:=(HO2.out.block x hx).2;omega)
        clear hW3
        refine wpAny_ready (rs:=[5]) (by kernel_rfl) (by simp) ?_
        refine AllReady.cons rfl (fun K hK=>?_) AllReady.nil
        obtain ⟨css,he5,hc5⟩:=Elems.each (HAC.out W3 HB3.out)
        have hz3:W0.heap.size≤W3.heap.size:=HB3.out.size
        obtain ⟨A33,c33,W4,hrun,hown,hgr,hat⟩:=run_append_elems (P:=Tryz.prog) keeps_frame leaf_frame (by decide) W0.heap.size 22 22 72 _ 72 Tryz.underlying22 hinfo.out rfl HO3.out (each_frame he5) (fun h=>by obtain ⟨b5,o5,x1,_,x2⟩:=hc5 (by rw [HL.out];exact h);exact ⟨b5,o5,x1,x2⟩) (m:=j) HL.out (c2:=c2) (fun _ h=>h) (fun _ h=>False.elim h) (by unfold maxLen;omega) (by omega) hz3
        refine step_append_runG (by kernel_rfl) _ _ 22 rfl _ _ (by rfl) (by rfl) hrun ?_
        refine hK _ _ ?_
        clear hK K
        have HB4:Hid (Below W0.heap.size W0 W4):=Lib.hid (HB3.out.grown hgr hz3 (fun x hx=>(HO3.out.block x hx).1))
        rw [Nat.zero_add] at hown ⊢
        rw [List.nil_append] at hown
        rw [Nat.zero_add] at hat
        have HO4:Hid (OwnFrs W4 W0.heap.size A33 j c33 acc):=Lib.hid hown
        have HG4:Hid (W4.heap[W2.heap.size]?=some (.cells #[.int .i64 e,.int .i64 k,.int .i64 kd,.int .i64 q0,.int .i64 q1,.int .i64 q2,.int .i64 q3,.int .i64 q4,.int .i64 q5] 72 (0,0))):=Lib.hid ((hgr.block _ hg35 (fun hh=>HE3.out _ hh.symm rfl)).trans HG3.out)
        have HE4:Hid (∀ x,(Value.slice A33 j c33).ownBlock=some x→x≠W2.heap.size):=Lib.hid (fun x hx=>by
         rcases hat with hat | hat
         ·exact HE3.out x (by rw [← hat];exact hx)
         ·rw [hat] at hx;injection hx with hx;omega)
        have hg36:=hg35
        clear hg35
        have hg35:W2.heap.size < W4.heap.size:=cell_block (block_cell HG4.out 0 _ rfl).1
        clear hrun hown hgr hat he5 hc5
        go_simp
        refine wpAny_ready (rs:=[8]) (by kernel_rfl) (by simp) ?_
        refine AllReady.cons rfl (fun K hK=>?_) AllReady.nil
        have hz4:W0.heap.size≤W4.heap.size:=HB4.out.size
        obtain ⟨A36,c36,W5,hrun,hown,hgr,hat⟩:=run_append_elems (P:=Tryz.prog) keeps_frame leaf_frame (by decide) W0.heap.size 22 22 72 _ 72 Tryz.underlying22 hinfo.out rfl HO4.out (each_one (R:=rdFrame) rfl (x:=(⟨e,k,kd,q0,q1,q2,q3,q4,q5⟩:Fr)) ⟨rfl,HFN.out⟩) (cells_at HG4.out rfl 1) (m:=1) rfl (c2:=1) (fun _ h=>h) (fun _ h=>False.elim h) (by unfold maxLen;omega) (by omega) hz4
        refine step_append_runG (by kernel_rfl) _ _ 22 rfl _ _ (by rfl) (by rfl) hrun ?_
        refine hK _ _ ?_
        clear hK K
        have HB5:Hid (Below W0.heap.size W0 W5):=Lib.hid (HB4.out.grown hgr hz4 (fun x hx=>(HO4.out.block x hx).1))
        have HO5:Hid (OwnFrs W5 W0.heap.size A36 (j+1) c36 (acc++[⟨e,k,kd,q0,q1,q2,q3,q4,q5⟩])):=Lib.hid hown
        clear hrun hown hgr hat
        go_simp
        refine wpAny_ready (rs:=[11]) (by kernel_rfl) (by simp) ?_
        refine AllReady.cons rfl (fun K hK=>?_) AllReady.nil
        go_simp
        go_wp2_with (refine Calls.mono (HROW.out W5 A36 c36 HO5.out) ?_;rintro e7 W6 ⟨rfl,hb7⟩)
        have HB6:Hid (Below W0.heap.size W0 W6):=Lib.hid (HB5.out.trans (hb7.mono HB5.out.size))
        clear hb7
        refine wpAny_take (i:=12) (v:=.bool (!r)) rfl (by kernel_rfl) (by kernel_rfl) (by kernel_rfl) (fun _ _ _ h=>h) (Or.inl ⟨by kernel_rfl,?h12⟩) ?_
        case h12=>(intro w;go_simp)
        go_simp
        refine wpAny_take (i:=13) (v:=.bool (!r)) rfl (by kernel_rfl) (by kernel_rfl) (by kernel_rfl) (fun _ _ _ h=>h) (Or.inl ⟨by kernel_rfl,?h13⟩) ?_
        case h13=>(intro w;go_simp)
        go_simp
        refine wpAny_done (by kernel_rfl) ?_ _
        go_wp2_with fail
        go_meet
        exact ⟨rfl,HB6.out⟩
     ·have hb6:=HBX.out W1 HB1.out
      have y0:W1.cell? ⟨w1.heap.size,0,none⟩=some (.int .i64 e):=(block_cell hb6 0 _ rfl).1
      have y1:W1.cell? ⟨w1.heap.size,1,none⟩=some (.int .i64 k):=(block_cell hb6 1 _ rfl).1
      have y2:W1.cell? ⟨w1.heap.size,2,none⟩=some (.int .i64 kd):=(block_cell hb6 2 _ rfl).1
      have y3:W1.cell? ⟨w1.heap.size,3,none⟩=some (.int .i64 q0):=(block_cell hb6 3 _ rfl).1
      have y4:W1.cell? ⟨w1.heap.size,4,none⟩=some (.int .i64 q1):=(block_cell hb6 4 _ rfl).1
      have y5:W1.cell? ⟨w1.heap.size,5,none⟩=some (.int .i64 q2):=(block_cell hb6 5 _ rfl).1
      have y6:W1.cell? ⟨w1.heap.size,6,none⟩=some (.int .i64 q3):=(block_cell hb6 6 _ rfl).1
      have y7:W1.cell? ⟨w1.heap.size,7,none⟩=some (.int .i64 q4):=(block_cell hb6 7 _ rfl).1
      have y8:W1.cell? ⟨w1.heap.size,8,none⟩=some (.int .i64 q5):=(block_cell hb6 8 _ rfl).1
      go_simp
      refine hK _ _ ?_
      clear hK K
      clear hb6 y0 y1 y2 y3 y4 y5 y6 y7 y8
      refine wpAny_ready (rs:=[3,7]) (by kernel_rfl) (by simp) ?_
      refine AllReady.cons rfl (fun K hK=>?_) (AllReady.cons rfl (fun K hK=>?_) AllReady.nil)
      ·go_simp
       refine hK _ _ ?_
       clear hK K
       obtain ⟨W2,hW2⟩:∃ x,x=W1.alloc (.cells #[] 72):=⟨_,rfl⟩
       rw [← hW2]
       have hz1:W0.heap.size≤W1.heap.size:=HB1.out.size
       have HB2:Hid (Below W0.heap.size W0 W2):=Lib.hid (by rw [hW2];exact HB1.out.alloc hz1 _)
       have HO2:Hid (OwnFrs W2 W0.heap.size (some ⟨W1.heap.size,0,none⟩) 0 0 []):=Lib.hid (by rw [hW2];exact ownNew hz1)
       clear hW2
       refine wpAny_ready (rs:=[5,7]) (by kernel_rfl) (by simp) ?_
       refine AllReady.cons rfl (fun K hK=>?_) (AllReady.cons rfl (fun K hK=>?_) AllReady.nil)
       ·obtain ⟨css,he5,hc5⟩:=Elems.each (HAC.out W2 HB2.out)
        have hz2:W0.heap.size≤W2.heap.size:=HB2.out.size
        obtain ⟨A33,c33,W3,hrun,hown,hgr,hat⟩:=run_append_elems (P:=Tryz.prog) keeps_frame leaf_frame (by decide) W0.heap.size 22 22 72 _ 72 Tryz.underlying22 hinfo.out rfl HO2.out (each_frame he5) (fun h=>by obtain ⟨b5,o5,x1,_,x2⟩:=hc5 (by rw [HL.out];exact h);exact ⟨b5,o5,x1,x2⟩) (m:=j) HL.out (c2:=c2) (fun _ h=>h) (fun _ h=>False.elim h) (by unfold maxLen;omega) (by omega) hz2
        refine step_append_runG (by kernel_rfl) _ _ 22 rfl _ _ (by rfl) (by rfl) hrun ?_
        refine hK _ _ ?_
        clear hK K
        have HB3:Hid (Below W0.heap.size W0 W3):=Lib.hid (HB2.out.grown hgr hz2 (fun x hx=>(HO2.out.block x hx).1))
        rw [Nat.zero_add] at hown ⊢
        rw [List.nil_append] at hown
        rw [Nat.zero_add] at hat
        have HO3:Hid (OwnFrs W3 W0.heap.size A33 j c33 acc):=Lib.hid hown
        clear hrun hown hgr hat he5 hc5
        go_simp
        refine wpAny_ready (rs:=[7]) (by kernel_rfl) (by simp) ?_
        refine AllReady.cons rfl (fun K hK=>?_) AllReady.nil
        go_simp
        refine hK _ _ ?_
        clear hK K
        obtain ⟨W4,hW4⟩:∃ x,x=W3.alloc (.cells #[.int .i64 e,.int .i64 k,.int .i64 kd,.int .i64 q0,.int .i64 q1,.int .i64 q2,.int .i64 q3,.int .i64 q4,.int .i64 q5] 72):=⟨_,rfl⟩
        rw [← hW4]
        have hz3:W0.heap.size≤W3.heap.size:=HB3.out.size
        have HB4:Hid (Below W0.heap.size W0 W4):=Lib.hid (by rw [hW4];exact HB3.out.alloc hz3 _)
        have HG4:Hid (W4.heap[W3.heap.size]?=some (.cells #[.int .i64 e,.int .i64 k,.int .i64 kd,.int .i64 q0,.int .i64 q1,.int .i64 q2,.int .i64 q3,.int .i64 q4,.int .i64 q5] 72 (0,0))):=Lib.hid (by rw [hW4];exact heap_alloc_new W3 _)
        have hg35:W3.heap.size < W4.heap.size:=cell_block (block_cell HG4.out 0 _ rfl).1
        have HO4:Hid (OwnFrs W4 W0.heap.size A33 j c33 acc):=Lib.hid (by rw [hW4];exact HO3.out.alloc keeps_frame (fun _ h=>False.elim h) _)
        have HE4:Hid (∀ x,(Value.slice A33 j c33).ownBlock=some x→x≠W3.heap.size):=Lib.hid (fun x hx=>by have:=(HO3.out.block x hx).2;omega)
        clear hW4
        refine wpAny_ready (rs:=[8]) (by kernel_rfl) (by simp) ?_
        refine AllReady.cons rfl (fun K hK=>?_) AllReady.nil
        have hz4:W0.heap.size≤W4.heap.size:=HB4.out.size
        obtain ⟨A36,c36,W5,hrun,hown,hgr,hat⟩:=run_append_elems (P:=Tryz.prog) keeps_frame leaf_frame (by decide) W0.heap.size 22 22 72 _ 72 Tryz.underlying22 hinfo.out rfl HO4.out (each_one (R:=rdFrame) rfl (x:=(⟨e,k,kd,q0,q1,q2,q3,q4,q5⟩:Fr)) ⟨rfl,HFN.out⟩) (cells_at HG4.out rfl 1) (m:=1) rfl (c2:=1) (fun _ h=>h) (fun _ h=>False.elim h) (by unfold maxLen;omega) (by omega) hz4
        refine step_append_runG (by kernel_rfl) _ _ 22 rfl _ _ (by rfl) (by rfl) hrun ?_
        refine hK _ _ ?_
        clear hK K
        have HB5:Hid (Below W0.heap.size W0 W5):=Lib.hid (HB4.out.grown hgr hz4 (fun x hx=>(HO4.out.block x hx).1))
        have HO5:Hid (OwnFrs W5 W0.heap.size A36 (j+1) c36 (acc++[⟨e,k,kd,q0,q1,q2,q3,q4,q5⟩])):=Lib.hid hown
        clear hrun hown hgr hat
        go_simp
        refine wpAny_ready (rs:=[11]) (by kernel_rfl) (by simp) ?_
        refine AllReady.cons rfl (fun K hK=>?_) AllReady.nil
        go_simp
        go_wp2_with (refine Calls.mono (HROW.out W5 A36 c36 HO5.out) ?_;rintro e7 W6 ⟨rfl,hb7⟩)
        have HB6:Hid (Below W0.heap.size W0 W6):=Lib.hid (HB5.out.trans (hb7.mono HB5.out.size))
        clear hb7
        refine wpAny_take (i:=12) (v:=.bool (!r)) rfl (by kernel_rfl) (by kernel_rfl) (by kernel_rfl) (fun _ _ _ h=>h) (Or.inl ⟨by kernel_rfl,?h12⟩) ?_
        case h12=>(intro w;go_simp)
        go_simp
        refine wpAny_take (i:=13) (v:=.bool (!r)) rfl (by kernel_rfl) (by kernel_rfl) (by kernel_rfl) (fun _ _ _ h=>h) (Or.inl ⟨by kernel_rfl,?h13⟩) ?_
        case h13=>(intro w;go_simp)
        go_simp
        refine wpAny_done (by kernel_rfl) ?_ _
        go_wp2_with fail
        go_meet
        exact ⟨rfl,HB6.out⟩
       ·go_simp
        refine hK _ _ ?_
        clear hK K
        obtain ⟨W3,hW3⟩:∃ x,x=W2.alloc (.cells #[.int .i64 e,.int .i64 k,.int .i64 kd,.int .i64 q0,.int .i64 q1,.int .i64 q2,.int .i64 q3,.int .i64 q4,.int .i64 q5] 72):=⟨_,rfl⟩
        rw [← hW3]
        have hz2:W0.heap.size≤W2.heap.size:=HB2.out.size
        have HB3:Hid (Below W0.heap.size W0 W3):=Lib.hid (by rw [hW3];exact HB2.out.alloc hz2 _)
        have HG3:Hid (W3.heap[W2.heap.size]?=some (.cells #[.int .i64 e,.int .i64 k,.int .i64 kd,.int .i64 q0,.int .i64 q1,.int .i64 q2,.int .i64 q3,.int .i64 q4,.int .i64 q5] 72 (0,0))):=Lib.hid (by rw [hW3];exact heap_alloc_new W2 _)
        have hg35:W2.heap.size < W3.heap.size:=cell_block (block_cell HG3.out 0 _ rfl).1
        have HO3:Hid (OwnFrs W3 W0.heap.size (some ⟨W1.heap.size,0,none⟩) 0 0 []):=Lib.hid (by rw [hW3];exact HO2.out.alloc keeps_frame (fun _ h=>False.elim h) _)
        have HE3:Hid (∀ x,(Value.slice (some ⟨W1.heap.size,0,none⟩) 0 0).ownBlock=some x→x≠W2.heap.size):=Lib.hid (fun x hx=>by have:=(HO2.out.block x hx).2;omega)
        clear hW3
        refine wpAny_ready (rs:=[5]) (by kernel_rfl) (by simp) ?_
        refine AllReady.cons rfl (fun K hK=>?_) AllReady.nil
        obtain ⟨css,he5,hc5⟩:=Elems.each (HAC.out W3 HB3.out)
        have hz3:W0.heap.size≤W3.heap.size:=HB3.out.size
        obtain ⟨A33,c33,W4,hrun,hown,hgr,hat⟩:=run_append_elems (P:=Tryz.prog) keeps_frame leaf_frame (by decide) W0.heap.size 22 22 72 _ 72 Tryz.underlying22 hinfo.out rfl HO3.out (each_frame he5) (fun h=>by obtain ⟨b5,o5,x1,_,x2⟩:=hc5 (by rw [HL.out];exact h);exact ⟨b5,o5,x1,x2⟩) (m:=j) HL.out (c2:=c2) (fun _ h=>h) (fun _ h=>False.elim h) (by unfold maxLen;omega) (by omega) hz3
        refine step_append_runG (by kernel_rfl) _ _ 22 rfl _ _ (by rfl) (by rfl) hrun ?_
        refine hK _ _ ?_
        clear hK K
        have HB4:Hid (Below W0.heap.size W0 W4):=Lib.hid (HB3.out.grown hgr hz3 (fun x hx=>(HO3.out.block x hx).1))
        rw [Nat.zero_add] at hown ⊢
        rw [List.nil_append] at hown
        rw [Nat.zero_add] at hat
        have HO4:Hid (OwnFrs W4 W0.heap.size A33 j c33 acc):=Lib.hid hown
        have HG4:Hid (W4.heap[W2.heap.size]?=some (.cells #[.int .i64 e,.int .i64 k,.int .i64 kd,.int .i64 q0,.int .i64 q1,.int .i64 q2,.int .i64 q3,.int .i64 q4,.int .i64 q5] 72 (0,0))):=Lib.hid ((hgr.block _ hg35 (fun hh=>HE3.out _ hh.symm rfl)).trans HG3.out)
        have HE4:Hid (∀ x,(Value.slice A33 j c33).ownBlock=some x→x≠W2.heap.size):=Lib.hid (fun x hx=>by
         rcases hat with hat | hat
         ·exact HE3.out x (by rw [← hat];exact hx)
         ·rw [hat] at hx;injection hx with hx;omega)
        have hg36:=hg35
        clear hg35
        have hg35:W2.heap.size < W4.heap.size:=cell_block (block_cell HG4.out 0 _ rfl).1
        clear hrun hown hgr hat he5 hc5
        go_simp
        refine wpAny_ready (rs:=[8]) (by kernel_rfl) (by simp) ?_
        refine AllReady.cons rfl (fun K hK=>?_) AllReady.nil
        have hz4:W0.heap.size≤W4.heap.size:=HB4.out.size
        obtain ⟨A36,c36,W5,hrun,hown,hgr,hat⟩:=run_append_elems (P:=Tryz.prog) keeps_frame leaf_frame (by decide) W0.heap.size 22 22 72 _ 72 Tryz.underlying22 hinfo.out rfl HO4.out (each_one (R:=rdFrame) rfl (x:=(⟨e,k,kd,q0,q1,q2,q3,q4,q5⟩:Fr)) ⟨rfl,HFN.out⟩) (cells_at HG4.out rfl 1) (m:=1) rfl (c2:=1) (fun _ h=>h) (fun _ h=>False.elim h) (by unfold maxLen;omega) (by omega) hz4
        refine step_append_runG (by kernel_rfl) _ _ 22 rfl _ _ (by rfl) (by rfl) hrun ?_
        refine hK _ _ ?_
        clear hK K
        have HB5:Hid (Below W0.heap.size W0 W5):=Lib.hid (HB4.out.grown hgr hz4 (fun x hx=>(HO4.out.block x hx).1))
        have HO5:Hid (OwnFrs W5 W0.heap.size A36 (j+1) c36 (acc++[⟨e,k,kd,q0,q1,q2,q3,q4,q5⟩])):=Lib.hid hown
        clear hrun hown hgr hat
        go_simp
        refine wpAny_ready (rs:=[11]) (by kernel_rfl) (by simp) ?_
        refine AllReady.cons rfl (fun K hK=>?_) AllReady.nil
        go_simp
        go_wp2_with (refine Calls.mono (HROW.out W5 A36 c36 HO5.out) ?_;rintro e7 W6 ⟨rfl,hb7⟩)
        have HB6:Hid (Below W0.heap.size W0 W6):=Lib.hid (HB5.out.trans (hb7.mono HB5.out.size))
        clear hb7
        refine wpAny_take (i:=12) (v:=.bool (!r)) rfl (by kernel_rfl) (by kernel_rfl) (by kernel_rfl) (fun _ _ _ h=>h) (Or.inl ⟨by kernel_rfl,?h12⟩) ?_
        case h12=>(intro w;go_simp)
        go_simp
        refine wpAny_take (i:=13) (v:=.bool (!r)) rfl (by kernel_rfl) (by kernel_rfl) (by kernel_rfl) (fun _ _ _ h=>h) (Or.inl ⟨by kernel_rfl,?h13⟩) ?_
        case h13=>(intro w;go_simp)
        go_simp
        refine wpAny_done (by kernel_rfl) ?_ _
        go_wp2_with fail
        go_meet
        exact ⟨rfl,HB6.out⟩
      ·go_simp
       refine hK _ _ ?_
       clear hK K
       obtain ⟨W2,hW2⟩:∃ x,x=W1.alloc (.cells #[.int .i64 e,.int .i64 k,.int .i64 kd,.int .i64 q0,.int .i64 q1,.int .i64 q2,.int .i64 q3,.int .i64 q4,.int .i64 q5] 72):=⟨_,rfl⟩
       rw [← hW2]
       have hz1:W0.heap.size≤W1.heap.size:=HB1.out.size
       have HB2:Hid (Below W0.heap.size W0 W2):=Lib.hid (by rw [hW2];exact HB1.out.alloc hz1 _)
       have HG2:Hid (W2.heap[W1.heap.size]?=some (.cells #[.int .i64 e,.int .i64 k,.int .i64 kd,.int .i64 q0,.int .i64 q1,.int .i64 q2,.int .i64 q3,.int .i64 q4,.int .i64 q5] 72 (0,0))):=Lib.hid (by rw [hW2];exact heap_alloc_new W1 _)
       have hg35:W1.heap.size < W2.heap.size:=cell_block (block_cell HG2.out 0 _ rfl).1
       clear hW2
       refine wpAny_ready (rs:=[3]) (by kernel_rfl) (by simp) ?_
       refine AllReady.cons rfl (fun K hK=>?_) AllReady.nil
       go_simp
       refine hK _ _ ?_
       clear hK K
       obtain ⟨W3,hW3⟩:∃ x,x=W2.alloc (.cells #[] 72):=⟨_,rfl⟩
       rw [← hW3]
       have hz2:W0.heap.size≤W2.heap.size:=HB2.out.size
       have HB3:Hid (Below W0.heap.size W0 W3):=Lib.hid (by rw [hW3];exact HB2.out.alloc hz2 _)
       have HO3:Hid (OwnFrs W3 W0.heap.size (some ⟨W2.heap.size,0,none⟩) 0 0 []):=Lib.hid (by rw [hW3];exact ownNew hz2)
       have HG3:Hid (W3.heap[W1.heap.size]?=some (.cells #[.int .i64 e,.int .i64 k,.int .i64 kd,.int .i64 q0,.int .i64 q1,.int .i64 q2,.int .i64 q3,.int .i64 q4,.int .i64 q5] 72 (0,0))):=Lib.hid (by rw [hW3];exact (Below.heap_alloc _ _ _ hg35).trans HG2.out)
       have HE3:Hid (∀ x,(Value.slice (some ⟨W2.heap.size,0,none⟩) 0 0).ownBlock=some x→x≠W1.heap.size):=Lib.hid (fun x hx=>by simp [Value.ownBlock] at hx;omega)
       have hg35:W1.heap.size < W3.heap.size:=cell_block (block_cell HG3.out 0 _ rfl).1
       clear hW3
       refine wpAny_ready (rs:=[5]) (by kernel_rfl) (by simp) ?_
       refine AllReady.cons rfl (fun K hK=>?_) AllReady.nil
       obtain ⟨css,he5,hc5⟩:=Elems.each (HAC.out W3 HB3.out)
       have hz3:W0.heap.size≤W3.heap.size:=HB3.out.size
       obtain ⟨A33,c33,W4,hrun,hown,hgr,hat⟩:=run_append_elems (P:=Tryz.prog) keeps_frame leaf_frame (by decide) W0.heap.size 22 22 72 _ 72 Tryz.underlying22 hinfo.out rfl HO3.out (each_frame he5) (fun h=>by obtain ⟨b5,o5,x1,_,x2⟩:=hc5 (by rw [HL.out];exact h);exact ⟨b5,o5,x1,x2⟩) (m:=j) HL.out (c2:=c2) (fun _ h=>h) (fun _ h=>False.elim h) (by unfold maxLen;omega) (by omega) hz3
       refine step_append_runG (by kernel_rfl) _ _ 22 rfl _ _ (by rfl) (by rfl) hrun ?_
       refine hK _ _ ?_
       clear hK K
       have HB4:Hid (Below W0.heap.size W0 W4):=Lib.hid (HB3.out.grown hgr hz3 (fun x hx=>(HO3.out.block x hx).1))
       rw [Nat.zero_add] at hown ⊢
       rw [List.nil_append] at hown
       rw [Nat.zero_add] at hat
       have HO4:Hid (OwnFrs W4 W0.heap.size A33 j c33 acc):=Lib.hid hown
       have HG4:Hid (W4.heap[W1.heap.size]?=some (.cells #[.int .i64 e,.int .i64 k,.int .i64 kd,.int .i64 q0,.int .i64 q1,.int .i64 q2,.int .i64 q3,.int .i64 q4,.int .i64 q5] 72 (0,0))):=Lib.hid ((hgr.block _ hg35 (fun hh=>HE3.out _ hh.symm rfl)).trans HG3.out)
       have HE4:Hid (∀ x,(Value.slice A33 j c33).ownBlock=some x→x≠W1.heap.size):=Lib.hid (fun x hx=>by
        rcases hat with hat | hat
        ·exact HE3.out x (by rw [← hat];exact hx)
        ·rw [hat] at hx;injection hx with hx;omega)
       have hg36:=hg35
       clear hg35
       have hg35:W1.heap.size < W4.heap.size:=cell_block (block_cell HG4.out 0 _ rfl).1
       clear hrun hown hgr hat he5 hc5
       go_simp
       refine wpAny_ready (rs:=[8]) (by kernel_rfl) (by simp) ?_
       refine AllReady.cons rfl (fun K hK=>?_) AllReady.nil
       have hz4:W0.heap.size≤W4.heap.size:=HB4.out.size
       obtain ⟨A36,c36,W5,hrun,hown,hgr,hat⟩:=run_append_elems (P:=Tryz.prog) keeps_frame leaf_frame (by decide) W0.heap.size 22 22 72 _ 72 Tryz.underlying22 hinfo.out rfl HO4.out (each_one (R:=rdFrame) rfl (x:=(⟨e,k,kd,q0,q1,q2,q3,q4,q5⟩:Fr)) ⟨rfl,HFN.out⟩) (cells_at HG4.out rfl 1) (m:=1) rfl (c2:=1) (fun _ h=>h) (fun _ h=>False.elim h) (by unfold maxLen;omega) (by omega) hz4
       refine step_append_runG (by kernel_rfl) _ _ 22 rfl _ _ (by rfl) (by rfl) hrun ?_
       refine hK _ _ ?_
       clear hK K
       have HB5:Hid (Below W0.heap.size W0 W5):=Lib.hid (HB4.out.grown hgr hz4 (fun x hx=>(HO4.out.block x hx).1))
       have HO5:Hid (OwnFrs W5 W0.heap.size A36 (j+1) c36 (acc++[⟨e,k,kd,q0,q1,q2,q3,q4,q5⟩])):=Lib.hid hown
       clear hrun hown hgr hat
       go_simp
       refine wpAny_ready (rs:=[11]) (by kernel_rfl) (by simp) ?_
       refine AllReady.cons rfl (fun K hK=>?_) AllReady.nil
       go_simp
       go_wp2_with (refine Calls.mono (HROW.out W5 A36 c36 HO5.out) ?_;rintro e7 W6 ⟨rfl,hb7⟩)
       have HB6:Hid (Below W0.heap.size W0 W6):=Lib.hid (HB5.out.trans (hb7.mono HB5.out.size))
       clear hb7
       refine wpAny_take (i:=12) (v:=.bool (!r)) rfl (by kernel_rfl) (by kernel_rfl) (by kernel_rfl) (fun _ _ _ h=>h) (Or.inl ⟨by kernel_rfl,?h12⟩) ?_
       case h12=>(intro w;go_simp)
       go_simp
       refine wpAny_take (i:=13) (v:=.bool (!r)) rfl (by kernel_rfl) (by kernel_rfl) (by kernel_rfl) (fun _ _ _ h=>h) (Or.inl ⟨by kernel_rfl,?h13⟩) ?_
       case h13=>(intro w;go_simp)
       go_simp
       refine wpAny_done (by kernel_rfl) ?_ _
       go_wp2_with fail
       go_meet
       exact ⟨rfl,HB6.out⟩
    case rest =>
     obtain ⟨rfl,hbc⟩:=hcut
     have HBC:=Lib.hid hbc
     have hg:=HBX.out wc hbc
     have HG:=Lib.hid hg
     have y0:wc.cell? ⟨w1.heap.size,0,none⟩=some (.int .i64 e):=(block_cell hg 0 _ rfl).1
     have y1:wc.cell? ⟨w1.heap.size,1,none⟩=some (.int .i64 k):=(block_cell hg 1 _ rfl).1
     have y2:wc.cell? ⟨w1.heap.size,2,none⟩=some (.int .i64 kd):=(block_cell hg 2 _ rfl).1
     have y3:wc.cell? ⟨w1.heap.size,3,none⟩=some (.int .i64 q0):=(block_cell hg 3 _ rfl).1
     have y4:wc.cell? ⟨w1.heap.size,4,none⟩=some (.int .i64 q1):=(block_cell hg 4 _ rfl).1
     have y5:wc.cell? ⟨w1.heap.size,5,none⟩=some (.int .i64 q2):=(block_cell hg 5 _ rfl).1
     have y6:wc.cell? ⟨w1.heap.size,6,none⟩=some (.int .i64 q3):=(block_cell hg 6 _ rfl).1
     have y7:wc.cell? ⟨w1.heap.size,7,none⟩=some (.int .i64 q4):=(block_cell hg 7 _ rfl).1
     have y8:wc.cell? ⟨w1.heap.size,8,none⟩=some (.int .i64 q5):=(block_cell hg 8 _ rfl).1
     have HOC:=Lib.hid (ownElems_later keeps_frame HOX.out hbc)
     have HB3:Hid (Below w.heap.size w wc):=Lib.hid (HBW.out.trans (hbc.mono HBW.out.size))
     have hsz3:w.heap.size≤wc.heap.size:=HB3.out.size
     have HFI:Hid (firstB f (n+j) (last acc ep)=r):=Lib.hid (by
      have:=row_snoc acc ⟨e,k,kd,q0,q1,q2,q3,q4,q5⟩ n ep
      rw [Hr.out,HRW.out,HL.out,Bool.true_and,HFF.out] at this
      exact this.symm)
     clear hg hbc
     rcases r with _ | _
     ·have HE:Hid (acc=R):=Lib.hid (by rw [← HA.out,all_no HLT.out HD.out (.inr (by rw [HFF.out];exact HFI.out)),List.append_nil])
      simp only [Bool.not_false]
      go_wp2
      go_ret2
      exact ⟨A2,j,c2,rfl,by rw [← HE.out];exact HOC.out,Lib.hid (by rw [← HE.out];exact OwnElems.len HOC.out),HB3.out⟩
     ·have HE:Hid ((acc++[⟨e,k,kd,q0,q1,q2,q3,q4,q5⟩])++all (bs.drop (72 * (j+1))) (n+((j+1:Nat):Int)) (last (acc++[⟨e,k,kd,q0,q1,q2,q3,q4,q5⟩]) ep)=R):=Lib.hid (by
       rw [← HA.out,all_yes (by rw [List.length_drop,HM.out];omega) HD.out (by rw [HFF.out];exact HFI.out),List.append_assoc,last_snoc,List.drop_drop,show 72 * j+72=72 * (j+1) by omega,show n+(j:Int)+1=n+((j+1:Nat):Int) by omega];rfl)
      simp only [Bool.not_true]
      go_wp2_with (at_builtin;refine wpList_append_elems rfl (.tmp 42) (.tmp 44) _ rfl keeps_frame leaf_frame (by decide) w.heap.size 72 _ 72 Tryz.underlying22 hinfo.out rfl rfl (HOC.out.alloc keeps_frame (fun _ h=>False.elim h) _) rfl (each_one (R:=rdFrame) rfl (x:=(⟨e,k,kd,q0,q1,q2,q3,q4,q5⟩:Fr)) ⟨rfl,HFN.out⟩) (cells_new rfl 1) rfl (fun _ h=>h) (fun _ h=>False.elim h) (by unfold maxLen;omega) (by omega) (by simp;omega) ?_;intro A3 c3 w3 hown3 hgr3 hat3;have HO3:=Lib.hid hown3;have HB4:Hid (Below w.heap.size w w3):=Lib.hid ((HB3.out.alloc hsz3 _).grown hgr3 (by simp;omega) (fun g hg=>(HOC.out.block g hg).1));clear hgr3 hat3 hown3)
      go_roundw
      case rel =>
       repeat apply Exists.intro
       refine ⟨?_,rfl⟩
       exact ⟨A3,j+1,c3,acc++[⟨e,k,kd,q0,q1,q2,q3,q4,q5⟩],rfl,by go_num,by omega,HO3,Lib.hid (by rw [List.length_append,HL.out];rfl),Lib.hid (by rw [Hr.out]),HE,HB4.out⟩
      case measure=>first | (simp [intOf];done) | (simp [intOf];omega)
   ·have hd2:(d != 0)=true:=by simpa using hd
    go_upto_region 6 with fail
    obtain ⟨W0,hW0⟩:∃ x,x=w1.alloc (.cells #[.int .i64 e,.int .i64 k,.int .i64 kd,.int .i64 q0,.int .i64 q1,.int .i64 q2,.int .i64 q3,.int .i64 q4,.int .i64 q5] 72):=⟨_,rfl⟩
    rw [← hW0]
    have HBW:Hid (Below w.heap.size w W0):=Lib.hid (by rw [hW0];exact HB0.out.alloc hsz1 _)
    have HOX:Hid (OwnFrs W0 w.heap.size A2 j c2 acc):=Lib.hid (by rw [hW0];exact HO1.out.alloc keeps_frame (fun _ h=>False.elim h) _)
    clear hW0
    go_cut [41] (fun s41 wx=>s41 = .bool true∧Below W0.heap.size W0 wx)
    case first =>
     refine wp_region_any (by kernel_rfl) ?_
     change wpAny _ _ _ _ _ _ _ (World.drew _)
     refine wpAny_take (i:=0) (v:=.int .i64 d) rfl (by kernel_rfl) (by kernel_rfl) (by kernel_rfl) (fun _ _ _ h=>h) (Or.inl ⟨by kernel_rfl,?h0⟩) ?_
     case h0=>(intro w;go_simp)
     go_simp
     refine wpAny_take (i:=1) (v:=.bool true) rfl (by kernel_rfl) (by kernel_rfl) (by kernel_rfl) (fun _ _ _ h=>h) (Or.inl ⟨by kernel_rfl,?h1⟩) ?_
     case h1=>(intro w;go_simp)
     go_simp
     refine wpAny_take (i:=2) (v:=.bool true) rfl (by kernel_rfl) (by kernel_rfl) (by kernel_rfl) (fun _ _ _ h=>h) (Or.inl ⟨by kernel_rfl,?h2⟩) ?_
     case h2=>(intro w;go_simp)
     go_simp
     refine wpAny_take (i:=3) (v:=undef) rfl (by kernel_rfl) (by kernel_rfl) (by kernel_rfl) (fun _ _ _ h=>h) (Or.inr ⟨by kernel_rfl,rfl⟩) ?_
     go_simp
     refine wpAny_take (i:=4) (v:=undef) rfl (by kernel_rfl) (by kernel_rfl) (by kernel_rfl) (fun _ _ _ h=>h) (Or.inr ⟨by kernel_rfl,rfl⟩) ?_
     go_simp
     refine wpAny_take (i:=5) (v:=undef) rfl (by kernel_rfl) (by kernel_rfl) (by kernel_rfl) (fun _ _ _ h=>h) (Or.inr ⟨by kernel_rfl,rfl⟩) ?_
     go_simp
     refine wpAny_take (i:=6) (v:=undef) rfl (by kernel_rfl) (by kernel_rfl) (by kernel_rfl) (fun _ _ _ h=>h) (Or.inr ⟨by kernel_rfl,rfl⟩) ?_
     go_simp
     refine wpAny_take (i:=7) (v:=undef) rfl (by kernel_rfl) (by kernel_rfl) (by kernel_rfl) (fun _ _ _ h=>h) (Or.inr ⟨by kernel_rfl,rfl⟩) ?_
     go_simp
     refine wpAny_take (i:=8) (v:=undef) rfl (by kernel_rfl) (by kernel_rfl) (by kernel_rfl) (fun _ _ _ h=>h) (Or.inr ⟨by kernel_rfl,rfl⟩) ?_
     go_simp
     refine wpAny_take (i:=9) (v:=undef) rfl (by kernel_rfl) (by kernel_rfl) (by kernel_rfl) (fun _ _ _ h=>h) (Or.inr ⟨by kernel_rfl,rfl⟩) ?_
     go_simp
     refine wpAny_take (i:=10) (v:=undef) rfl (by kernel_rfl) (by kernel_rfl) (by kernel_rfl) (fun _ _ _ h=>h) (Or.inr ⟨by kernel_rfl,rfl⟩) ?_
     go_simp
     refine wpAny_take (i:=11) (v:=undef) rfl (by kernel_rfl) (by kernel_rfl) (by kernel_rfl) (fun _ _ _ h=>h) (Or.inr ⟨by kernel_rfl,rfl⟩) ?_
     go_simp
     refine wpAny_take (i:=12) (v:=undef) rfl (by kernel_rfl) (by kernel_rfl) (by kernel_rfl) (fun _ _ _ h=>h) (Or.inr ⟨by kernel_rfl,rfl⟩) ?_
     go_simp
     refine wpAny_take (i:=13) (v:=.bool true) rfl (by kernel_rfl) (by kernel_rfl) (by kernel_rfl) (fun _ _ _ h=>h) (Or.inl ⟨by kernel_rfl,?h13⟩) ?_
     case h13=>(intro w;go_simp)
     go_simp
     refine wpAny_done (by kernel_rfl) ?_ _
     go_wp2_with fail
     go_meet
     exact ⟨rfl,(Below.refl _ _).drew⟩
    case rest =>
     obtain ⟨rfl,hbc⟩:=hcut
     have HE:Hid (acc=R):=Lib.hid (by rw [← HA.out,all_no HLT.out HD.out (.inl hd),List.append_nil])
     have HOC:=Lib.hid (ownElems_later keeps_frame HOX.out hbc)
     have HB3:Hid (Below w.heap.size w wc):=Lib.hid (HBW.out.trans (hbc.mono HBW.out.size))
     clear hbc hd
     go_wp2
     go_ret2
     exact ⟨A2,j,c2,rfl,by rw [← HE.out];exact HOC.out,Lib.hid (by rw [← HE.out];exact OwnElems.len HOC.out),HB3.out⟩
end Go.Proofs.YtepfmpmphcndjaaGreatDoor.scan
end
section
namespace Go.Proofs.YtepfmpmphcndjaaGreatDoor.scan
set_option maxRecDepth 20000
open Go.RowKit Go.Proofs.YtepfmpmphcndjaaGreatDoor Go.Proofs.YtepfmpmphcndjaaGreatDoor.frame
theorem row_right {l:List Fr} {n e:Int} (h:row l n e=true):allRight l=true:=by
 induction l generalizing n e with
 |nil=>rfl
 |cons f l ih =>
  obtain ⟨h1,_,_,h4⟩:=(row_cons _ _ _ _).1 h
  have:=ih h4
  unfold allRight at this ⊢
  simp [h1,this]
section
variable {A:Option Addr} {m c B:Nat} {l:List Fr}
theorem put_of (W:World) (hx:Frs W B A l) (hB:B≤W.heap.size) (hm:l.length=m) (hmax:m≤100) (hr:allRight l=true) {N:Nat} (hN:72 * m=N) :
  Calls Tryz.prog 67 #[.slice A m c] W fun e w' => ∃ A' c',e = .returned (.tuple #[.slice A' N c',.int .i64 0])∧OwnBys w' W.heap.size 5 A' N c' (put l)∧Below W.heap.size W w':=by
 refine (put_yes A m c l W (hx.more hB) hm hmax hr).mono ?_
 rintro e w' ⟨A',c',rfl,h1,h2⟩
 rw [hm,hN] at h1 ⊢
 exact ⟨A',c',rfl,h1,h2⟩
theorem row_of (W:World) (hx:Frs W B A l) (hB:B≤W.heap.size) (hm:l.length=m) (hmax:m≤100000) {n e:Int} {r:Bool} (hr:row l n e=r) :
  Calls Tryz.prog 61 #[.slice A m c,.int .i64 n,.int .i64 e] W fun e w'=>e = .returned (.bool r)∧Below W.heap.size W w':=by rw [← hr];exact row_any A m c l n e W (hx.more hB) hm (by omega)
theorem same_of {A2:Option Addr} {m2 c2 B2:Nat} {l2:List Fr} (W:World) (hx:Frs W B A l) (hB:B≤W.heap.size) (hm:l.length=m) (hmax:m≤100000) (hx2:Frs W B2 A2 l2) (hB2:B2≤W.heap.size) (hm2:l2.length=m2) (hmax2:m2≤100000) {r:Bool} (hr:decide (l=l2)=r) :
  Calls Tryz.prog 28 #[.slice A m c,.slice A2 m2 c2] W fun e w'=>e = .returned (.bool r)∧Below W.heap.size W w':=by
 rw [← hr]
 refine (same_any A m c l A2 m2 c2 l2 W (hx.more hB) hm (hx2.more hB2) hm2 (by omega) (by omega)).mono ?_
 rintro e w' ⟨h,q,rfl⟩
 exact ⟨h,below_drewN (Below.refl _ _) _⟩
theorem scan_of {bs:List Nat} (W:World) (hx:Bys W B A bs) (hB:B≤W.heap.size) (hm:bs.length=m) (hc:m≤c) (hcm:c≤9223372036854775807) (hmax:m≤100000) {n e:Int} {l:List Fr} {k:Nat} (hl:all bs n e=l) (hk:l.length=k) :
  Calls Tryz.prog 92 #[.slice A m c,.int .i64 n,.int .i64 e] W fun e w' => ∃ A' c',e = .returned (.tuple #[.slice A' k c',.int .i64 ((k:Int) * 72)])∧OwnFrs w' W.heap.size A' k c' l∧Below W.heap.size W w':=by
 refine (scan_any A m c bs n e W (hx.more hB) hm hc hcm hmax).mono ?_
 rintro e w' ⟨A',n',c',rfl,h1,h2,h3⟩
 rw [hl] at h1 h2
 have h4:=h2.out
 rw [hk] at h4
 subst h4
 exact ⟨A',c',rfl,h1,h3⟩
theorem rscan_of {bs:List Nat} (W:World) (hx:Bys W B A bs) (hB:B≤W.heap.size) (hm:bs.length=m) (hc:m≤c) (hcm:c≤9223372036854775807) (hmax:m≤100000) {n e:Int} {l:List Fr} {k:Nat} (hl:all bs n e=l) (hk:l.length=k) :
  Calls Tryz.prog 98 #[.slice A m c,.int .i64 n,.int .i64 e] W fun e w' => ∃ A' c',e = .returned (.tuple #[.slice A' k c',.int .i64 ((k:Int) * 72)])∧OwnFrs w' W.heap.size A' k c' l∧Below W.heap.size W w':=by
 refine (rscan_any A m c bs n e W (hx.more hB) hm hc hcm hmax).mono ?_
 rintro e w' ⟨A',n',c',rfl,h1,h2,h3⟩
 rw [hl] at h1 h2
 have h4:=h2.out
 rw [hk] at h4
 subst h4
 exact ⟨A',c',rfl,h1,h3⟩
end
theorem own_bys_cap {w:World} {base n c:Nat} {e:TypeId} {A:Option Addr} {bs:List Nat} (h:OwnBys w base e A n c bs):n≤c∧c≤9223372036854775807:=by
 have:=own_cap h;unfold maxLen at this;omega
theorem all_len (b:List Nat) (n e:Int):72 * (all b n e).length≤b.length:=scan_len _ _ _ _
end Go.Proofs.YtepfmpmphcndjaaGreatDoor.scan
end
