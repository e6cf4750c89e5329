/-
  FrameImpl2
-/
import Derived.Test.YtalhdalinpdanaaGreatDoorMwl11
import Derived.StillTailTactics
import Derived.Laws.CopyOwn
import Derived.Deep.RegionLaw
import Derived.Deep.OwnRows
set_option linter.unusedVariables false
set_option linter.unusedSimpArgs false
namespace Go.Proofs.YtalhdalinpdanaaGreatDoor.frame
set_option maxRecDepth 20000
open Go.RowKit Go.Proofs.YtalhdalinpdanaaGreatDoor
theorem own_whole {w:World} {base n g:Nat} {e:TypeId} {bs:List Nat} (h:OwnBys w base e (some ⟨g,0,none⟩) n n bs):w.heap[g]?=some (.cells ((toI bs).map (Value.int .u8)).toArray e (0,0)):=by
 rcases h.1.2 with ⟨hv,_⟩ | ⟨g',cap,cur,hv,_,hh,_,_,hs,ht⟩
 ·simp at hv
 ·simp only [Value.slice.injEq,Option.some.injEq,Addr.mk.injEq,and_true,true_and] at hv
  obtain ⟨rfl,rfl⟩:=hv
  rw [List.take_of_length_le (by simp [hs])] at ht
  rw [hh,← ht]
theorem whole_own {w:World} {base n g:Nat} {e:TypeId} {bs:List Nat} (hb:base≤g) (hn:bs.length=n) (hm:n≤maxLen) (hw:∀ b ∈ bs,b < 256) (h:w.heap[g]?=some (.cells ((toI bs).map (Value.int .u8)).toArray e (0,0))):OwnBys w base e (some ⟨g,0,none⟩) n n bs:=by
 refine ⟨⟨by simp [toI_len,hn],.inr ⟨g,n,_,rfl,hb,h,Nat.le_refl _,hm,by simp [toI_len,hn],?_⟩⟩,?_⟩
 ·rw [List.take_of_length_le (by simp [toI_len,hn])]
 ·intro x hx;obtain ⟨b,hb',rfl⟩:=List.mem_map.1 hx;exact (wf_u8 b).2 (hw b hb')
def Fr.body (f:Fr) (k:Nat):Int:=if k=0 then f.b0 else if k=1 then f.b1 else if k=2 then f.b2 else if k=3 then f.b3 else if k=4 then f.b4 else f.b5
def pre (f:Fr):Nat→List Nat
 | 0=>be 4 72++(be 4 (u f.e)++(be 8 (u f.l)++be 4 (u f.k)))
 |k+1=>pre f k++be 8 (u (f.body k))
theorem pre_len (f:Fr) (k:Nat):(pre f k).length=20+8 * k:=by
 induction k with
 |zero=>simp [pre,be_len]
 |succ k ih=>simp [pre,be_len,ih];omega
theorem pre_all (f:Fr):pre f 6=data f:=by
 simp [pre,data,Fr.body,List.append_assoc]
theorem spl_zeros (p:List Nat) (n v m a:Nat) (h:p.length=a):spl (p++List.replicate (n+m) 0) a n v=(p++be n v)++List.replicate m 0:=by
 subst h
 unfold spl
 rw [List.take_append_of_le_length (Nat.le_refl _),List.take_of_length_le (Nat.le_refl _),List.drop_append,List.drop_of_length_le (by omega),List.nil_append,show p.length+n - p.length=n by omega]
 simp [List.drop_replicate]
def Encoded (f:Fr) (w:World) (e:Ending) (w' : World):Prop :=
 ∃ g,e = .returned (.tuple #[.slice (some ⟨g,0,none⟩) 72 72,.int .i64 0])∧OwnBys w' w.heap.size 5 (some ⟨g,0,none⟩) 72 72 (enc f)∧Below w.heap.size w w'
theorem right_is (f:Fr) (r:Bool) (w:World) (h:right f=r):Calls Tryz.prog 128 #[.agg (fc f)] w fun e w'=>e = .returned (.bool r)∧Below w.heap.size w w':=by rw [← h];exact right_any f w
theorem made72:(madeCells #[Value.int .u8 0] 72).toList=(toI (List.replicate 72 0)).map (Value.int .u8):=by kernel_rfl
theorem put_is (g a n cap v base:Nat) (z:Int) (E:TypeId) (xs ys:List Nat) (N C:Nat) (w:World) (hz:z=(v:Int)) (hy:spl xs a n v=ys) (hown:OwnBys w base E (some ⟨g,0,none⟩) N C xs) (hg:base≤g) (hn:a+n≤N) (hN:N≤1000) (h8:n≤8) (hv:v < 18446744073709551616) :
  Calls Tryz.prog 129 #[.slice (some ⟨g,a,none⟩) n cap,.int .u64 z] w fun e w'=>e = .returned (.tuple #[])∧OwnBys w' base E (some ⟨g,0,none⟩) N C ys∧Below base w w'∧w'.heap.size=w.heap.size:=by
 subst hz hy
 exact put_any g a n cap v base E xs N C w hown hg hn hN h8 hv
theorem wrap_u (x:Int):IntKind.u64.wrap x=(u x:Int):=by
 simp only [IntKind.wrap,IntKind.bits,IntKind.signed,u]
 simp
 omega
theorem box_cells {w w' : World} {B g:Nat} {cs:Array Value} {t:TypeId} (hb:Below B w w') (hg:g < B) (h:w.heap[g]?=some (.cells cs t (0,0))):w'.heap[g]?=some (.cells cs t (0,0)):=(hb.block g hg).trans h
set_option maxHeartbeats 1000000 in
theorem encode_yes (f : Fr) (hf:f.fine) (w:World) (h:right f=true):Calls Tryz.prog 106 #[.agg (fc f)] w (Encoded f w):=by
  have HC:Hid (∀ W,Calls Tryz.prog 128 #[.agg (fc f)] W fun e w'=>e = .returned (.bool true)∧Below W.heap.size W w'):=Lib.hid (fun W=>right_is f true W h)
  obtain ⟨e,l,k,b0,b1,b2,b3,b4,b5⟩:=f
  unfold fc at HC ⊢
  simp only at HC ⊢
  clear h hf
  have hmk:∀ W:World,(Instr.makeSlice 62 (.int .i64 72) (.int .i64 72)).run Tryz.prog W = .ok (.slice (some ⟨W.heap.size,0,none⟩) 72 72) (W.alloc (.cells (madeCells #[.int .u8 0] 72) 5)):=fun W =>
    run_make_row' 62 5 (.int .u8 0) 1 Tryz.underlying62 (by kernel_rfl) rfl .i64 .i64 72 (by omega) (by omega) W
  obtain ⟨Z,HZ⟩:∃ Z,Hid (madeCells #[Value.int .u8 0] 72=Z):=⟨_,Lib.hid rfl⟩
  have HZ2:Hid (Z.toList=(toI (List.replicate 72 0)).map (Value.int .u8)):=Lib.hid (by rw [← HZ.out];exact made72)
  rw [HZ.out] at hmk
  go_enter Tryz.func106,Tryz.ntmps106
  have S0:Hid (spl (List.replicate 72 0) 0 4 72=be 4 72++List.replicate 68 0):=Lib.hid (spl_zeros [] 4 72 68 0 rfl)
  have S1:Hid (spl (be 4 72++List.replicate 68 0) 4 4 (u e)=(be 4 72++be 4 (u e))++List.replicate 64 0):=Lib.hid (spl_zeros _ 4 _ 64 4 rfl)
  have S2:Hid (spl ((be 4 72++be 4 (u e))++List.replicate 64 0) 8 8 (u l)=((be 4 72++be 4 (u e))++be 8 (u l))++List.replicate 56 0):=Lib.hid (spl_zeros _ 8 _ 56 8 rfl)
  have S3:Hid (spl (((be 4 72++be 4 (u e))++be 8 (u l))++List.replicate 56 0) 16 4 (u k)=pre ⟨e,l,k,b0,b1,b2,b3,b4,b5⟩ 0++List.replicate (52 - 8 * 0) 0):=Lib.hid (by
    rw [show (56:Nat)=4+52 by omega,spl_zeros _ 4 _ 52 16 rfl];simp [pre,List.append_assoc])
  go_wp2_with ((with_reducible refine Calls.mono (HC.out _) ?_);rintro e w1 ⟨rfl,hb1⟩;have hsz1:w.heap.size+1≤w1.heap.size:=(by have:=hb1.size;simp at this;omega))
  refine (put_is w1.heap.size 0 4 _ 72 (w.heap.size+1) _ 5 (List.replicate 72 0) (be 4 72++List.replicate 68 0) 72 72 _ (by rfl) S0.out (OwnBys.new hsz1 _ HZ2.out (by simp) (by simp) (by unfold maxLen;omega)) (by omega) (by omega) (by omega) (by omega) (by omega)).mono ?_
  rintro e w2 ⟨rfl,hown2,hb2,hs2⟩
  have HX1:w1.heap[w.heap.size]?=some (.cells #[.int .i64 e,.int .i64 l,.int .i64 k,.int .i64 b0,.int .i64 b1,.int .i64 b2,.int .i64 b3,.int .i64 b4,.int .i64 b5] 72 (0,0)):=box_cells hb1 (by simp) (heap_alloc_new w _)
  have HX2:w2.heap[w.heap.size]?=some (.cells #[.int .i64 e,.int .i64 l,.int .i64 k,.int .i64 b0,.int .i64 b1,.int .i64 b2,.int .i64 b3,.int .i64 b4,.int .i64 b5] 72 (0,0)):=box_cells hb2 (by simp) (box_cells ((Below.refl (w.heap.size+1) w1).alloc hsz1 _) (by simp) HX1)
  have HB2:Hid (Below (w.heap.size+1) (w.alloc (.cells #[.int .i64 e,.int .i64 l,.int .i64 k,.int .i64 b0,.int .i64 b1,.int .i64 b2,.int .i64 b3,.int .i64 b4,.int .i64 b5] 72)) w2):=Lib.hid (by
    have h1:=hb1;simp only [World.size_alloc] at h1
    exact (h1.trans ((Below.refl _ _).alloc hsz1 _)).trans hb2)
  obtain ⟨g,HG⟩:∃ g,Hid (w1.heap.size=g):=⟨_,Lib.hid rfl⟩
  rw [HG.out] at hown2
  have hgg:w.heap.size+1≤g:=by rw [← HG.out];exact hsz1
  rw [HG.out]
  have ⟨c0,f0⟩:=block_cell HX2 0 _ rfl
  clear hb1 hb2 hsz1 HX1 hs2 hmk HC HG
  go_wp2
  go_still_tail 5,(by kernel_rfl)
  repeat still_step
  change wpList _ _ _ _ _ w2.drew
  go_wp2_with fail
  refine (put_is g 4 4 _ (u e) (w.heap.size+1) _ 5 _ _ 72 72 _ (wrap_u e) S1.out hown2.drew hgg (by omega) (by omega) (by omega) (u_lt e)).mono ?_
  rintro e3 w3 ⟨rfl,hown3,hb3,hs3⟩
  have HX3:=box_cells hb3 (by simp) (show w2.drew.heap[w.heap.size]?=_ from HX2)
  have HB3:=Lib.hid ((HB2.out.drew).trans hb3)
  have ⟨c1,f1⟩:=block_cell HX3 1 _ rfl
  clear HX2 hb3 hown2 c0 f0 HB2 hs3
  go_wp2
  go_still_tail 5,(by kernel_rfl)
  repeat still_step
  change wpList _ _ _ _ _ w3.drew
  go_wp2_with fail
  refine (put_is g 8 8 _ (u l) (w.heap.size+1) _ 5 _ _ 72 72 _ (wrap_u l) S2.out hown3.drew hgg (by omega) (by omega) (by omega) (u_lt l)).mono ?_
  rintro e4 w4 ⟨rfl,hown4,hb4,hs4⟩
  have HX4:=box_cells hb4 (by simp) (show w3.drew.heap[w.heap.size]?=_ from HX3)
  have HB4:=Lib.hid ((HB3.out.drew).trans hb4)
  have ⟨c2,f2⟩:=block_cell HX4 2 _ rfl
  clear HX3 hb4 hown3 c1 f1 HB3 hs4
  go_wp2
  go_still_tail 5,(by kernel_rfl)
  repeat still_step
  change wpList _ _ _ _ _ w4.drew
  go_wp2_with fail
  refine (put_is g 16 4 _ (u k) (w.heap.size+1) _ 5 _ _ 72 72 _ (wrap_u k) S3.out hown4.drew hgg (by omega) (by omega) (by omega) (u_lt k)).mono ?_
  rintro e5 w5 ⟨rfl,hown5,hb5,hs5⟩
  have HX5:=box_cells hb5 (by simp) (show w4.drew.heap[w.heap.size]?=_ from HX4)
  have HB5:=Lib.hid ((HB4.out.drew).trans hb5)
  have ⟨c3,f3⟩:=block_cell HX5 3 _ rfl
  have ⟨c4,f4⟩:=block_cell HX5 4 _ rfl
  have ⟨c5,f5⟩:=block_cell HX5 5 _ rfl
  have ⟨c6,f6⟩:=block_cell HX5 6 _ rfl
  have ⟨c7,f7⟩:=block_cell HX5 7 _ rfl
  have ⟨c8,f8⟩:=block_cell HX5 8 _ rfl
  clear HX4 hb5 hown4 c2 f2 HB4 hs5
  obtain ⟨fr,HF⟩:∃ fr:Fr,Hid ((⟨e,l,k,b0,b1,b2,b3,b4,b5⟩:Fr)=fr):=⟨_,Lib.hid rfl⟩
  have HBD:Hid (fr.body 0=b0∧fr.body 1=b1∧fr.body 2=b2∧fr.body 3=b3∧fr.body 4=b4∧fr.body 5=b5):=Lib.hid (by rw [← HF.out];exact ⟨rfl,rfl,rfl,rfl,rfl,rfl⟩)
  have HS:Hid (∀ j,j < 6→spl (pre fr j++List.replicate (52 - 8 * j) 0) (20+8 * j) 8 (u (fr.body j))=pre fr (j+1)++List.replicate (52 - 8 * (j+1)) 0):=Lib.hid (fun j hj=>by
    rw [show 52 - 8 * j=8+(52 - 8 * (j+1)) by omega]
    exact spl_zeros (pre fr j) 8 _ _ (20+8 * j) (pre_len fr j))
  have hown5' : OwnBys w5 (w.heap.size+1) 5 (some ⟨g,0,none⟩) 72 72 (pre fr 0++List.replicate (52 - 8 * 0) 0):=by rw [← HF.out];exact hown5
  have HE:Hid (enc ⟨e,l,k,b0,b1,b2,b3,b4,b5⟩=enc fr):=Lib.hid (by rw [HF.out])
  clear hown5 S0 S1 S2 S3
  rw [HF.out]
  clear HF
  go_wp2
  have HBW:Hid (Below w.heap.size w (w.alloc (.cells #[.int .i64 e,.int .i64 l,.int .i64 k,.int .i64 b0,.int .i64 b1,.int .i64 b2,.int .i64 b3,.int .i64 b4,.int .i64 b5] 72))):=Lib.hid ((Below.refl _ _).alloc (Nat.le_refl _) _)
  generalize w.alloc (.cells #[.int .i64 e,.int .i64 l,.int .i64 k,.int .i64 b0,.int .i64 b1,.int .i64 b2,.int .i64 b3,.int .i64 b4,.int .i64 b5] 72)=W0 at HB5 HBW
  go_loopw [5,6,35] (fun _ _ i wr => ∃ j:Nat,j≤6∧i = .int .i64 j∧OwnBys wr (w.heap.size+1) 5 (some ⟨g,0,none⟩) 72 72 (pre fr j++List.replicate (52 - 8 * j) 0)∧Below (w.heap.size+1) W0 wr) (fun _ _ i _=>6 - (intOf i).toNat)
  case atStart=>exact ⟨0,by omega,rfl,hown5',HB5.out⟩
  case round =>
    obtain ⟨j,hj,rfl,hown,hb⟩:=hrel
    by_cases hlt:j < 6
    · obtain ⟨o,HO⟩:∃ o,Hid (20+8 * j=o):=⟨_,Lib.hid rfl⟩
      obtain ⟨c2,HC2⟩:∃ c2,Hid (72 - (20+8 * j)=c2):=⟨_,Lib.hid rfl⟩
      obtain ⟨nx,HNX⟩:∃ nx,Hid (pre fr (j+1)++List.replicate (52 - 8 * (j+1)) 0=nx):=⟨_,Lib.hid rfl⟩
      have HP:Hid (∀ (z:Int),z=(u (fr.body j):Int)→Calls Tryz.prog 129 #[.slice (some ⟨g,o,none⟩) 8 c2,.int .u64 z] wr fun e w'=>e = .returned (.tuple #[])∧OwnBys w' (w.heap.size+1) 5 (some ⟨g,0,none⟩) 72 72 nx∧Below (w.heap.size+1) wr w'∧w'.heap.size=wr.heap.size):=Lib.hid (fun z hz=>by
        rw [← HO.out,← HNX.out]
        exact put_is g (20+8 * j) 8 c2 _ _ z 5 _ _ 72 72 _ hz (HS.out j hlt) hown hgg (by omega) (by omega) (by omega) (u_lt _))
      have HPL:Hid (∀ (z:Int),z=(j:Int)→Calls Tryz.prog 130 #[.slice (some ⟨g,0,none⟩) 72 72,.int .i64 z] wr fun e w'=>e = .returned (.slice (some ⟨g,o,none⟩) 8 c2)∧wr=w'):=Lib.hid (fun z hz=>place_is g 0 j 72 o c2 z wr hz (by rw [Nat.zero_add];exact HO.out) HC2.out hlt (by omega) (by omega))
      have hcase:∃ x,Hid (fr.body j=x)∧((j=0∧x=b0)∨(j=1∧x=b1)∨(j=2∧x=b2)∨(j=3∧x=b3)∨(j=4∧x=b4)∨(j=5∧x=b5)):=by
        obtain ⟨g0,g1,g2,g3,g4,g5⟩:=HBD.out
        rcases (show j=0∨j=1∨j=2∨j=3∨j=4∨j=5 by omega) with rfl | rfl | rfl | rfl | rfl | rfl
        · exact ⟨_,Lib.hid g0,.inl ⟨rfl,rfl⟩⟩
        · exact ⟨_,Lib.hid g1,.inr (.inl ⟨rfl,rfl⟩)⟩
        · exact ⟨_,Lib.hid g2,.inr (.inr (.inl ⟨rfl,rfl⟩))⟩
        · exact ⟨_,Lib.hid g3,.inr (.inr (.inr (.inl ⟨rfl,rfl⟩)))⟩
        · exact ⟨_,Lib.hid g4,.inr (.inr (.inr (.inr (.inl ⟨rfl,rfl⟩))))⟩
        · exact ⟨_,Lib.hid g5,.inr (.inr (.inr (.inr (.inr ⟨rfl,rfl⟩))))⟩
      obtain ⟨x,HX,hcase⟩:=hcase
      have hidx:∀ W:World,(Instr.index 28 (.agg #[.int .i64 b0,.int .i64 b1,.int .i64 b2,.int .i64 b3,.int .i64 b4,.int .i64 b5]) (.int .i64 (j:Int))).run Tryz.prog W = .ok (.int .i64 x) W:=fun W=>by
        rcases hcase with ⟨rfl,rfl⟩ | ⟨rfl,rfl⟩ | ⟨rfl,rfl⟩ | ⟨rfl,rfl⟩ | ⟨rfl,rfl⟩ | ⟨rfl,rfl⟩<;>kernel_rfl
      clear hown HS HO HC2 HBD HX5 c3 c4 c5 c6 c7 c8 f3 f4 f5 f6 f7 f8 HZ HZ2 hj HB5 HE hcase
      go_wp2_with (first
        | ((with_reducible refine Calls.mono (HPL.out _ (by rfl)) ?_);rintro e7 w7 ⟨rfl,rfl⟩)
        | ((with_reducible refine Calls.mono (HP.out _ (by rw [HX.out];exact wrap_u _)) ?_);rintro e8 w8 ⟨rfl,hown8,hb8,hs8⟩))
      go_roundw
      case rel=>exact ⟨j+1,by omega,by go_num,by rw [HNX.out];exact hown8,hb.trans hb8⟩
      case measure=>first | (simp [intOf];done) | (simp [intOf];omega)
    · obtain rfl : j = 6 := by omega
      rw [pre_all] at hown
      obtain ⟨s,HM⟩:∃ s,Hid (crc.more 0 (data fr)=s):=⟨_,Lib.hid rfl⟩
      have HCK:=Lib.hid (checked_any _ 72 wr.heap.size _ s wr hown.bys (Nat.le_refl _) hown.len (by omega) (by omega) (by rw [← HM.out];congr 1))
      have H72:=Lib.hid (own_whole hown)
      have hgl:g < wr.heap.size:=(hown.block g rfl).2
      clear hown HBD HX5 c3 c4 c5 c6 c7 c8 f3 f4 f5 f6 f7 f8 HZ HZ2 hj hlt HB5 HS
      go_wp2_with ((with_reducible refine Calls.mono HCK.out ?_);rintro e6 w6 ⟨rfl,hb6⟩)
      have H76:(w6.alloc (.cells #[.int .u8 ((s % 256:Nat):Int),.int .u8 ((s / 256 % 256:Nat):Int),.int .u8 ((s / 65536 % 256:Nat):Int),.int .u8 ((s / 16777216 % 256:Nat):Int)] 178)).heap[g]?=some (.cells ((toI (data fr++List.replicate 4 0)).map (Value.int .u8)).toArray 5 (0,0)):=by
        rw [Below.heap_alloc _ _ _ (by have:=hb6.size;omega),hb6.block g hgl,H72.out]
      have H7S:=Lib.hid (block_cell (heap_alloc_new w6 (.cells #[.int .u8 ((s % 256:Nat):Int),.int .u8 ((s / 256 % 256:Nat):Int),.int .u8 ((s / 65536 % 256:Nat):Int),.int .u8 ((s / 16777216 % 256:Nat):Int)] 178)))
      have hb7:Below (w.heap.size+1) W0 (w6.alloc (.cells #[.int .u8 ((s % 256:Nat):Int),.int .u8 ((s / 256 % 256:Nat):Int),.int .u8 ((s / 65536 % 256:Nat):Int),.int .u8 ((s / 16777216 % 256:Nat):Int)] 178)):=(hb.trans (hb6.mono (by omega))).alloc (by have:=hb6.size;omega) _
      have hcl:((toI (data fr++List.replicate 4 0)).map (Value.int .u8)).length=72:=by simp [toI,data_len]
      have HW7:=Lib.hid H76
      have HB7:=Lib.hid hb7
      have HL7:=Lib.hid hcl
      clear H76 hb7 hcl hb hb6 H72 HCK
      go_region_law (refine step_copy_splice rfl (.tmp 49) (.tmp 50) 62 62 rfl 5 Tryz.underlying62 (by kernel_rfl) (some ⟨g,68,none⟩) (some ⟨w6.heap.size,0,none⟩) 4 4 4 4 (by simp [Act.eval,Act.put]) (by simp [Act.eval,Act.put]) g 68 _ 5 HW7.out
                            [.int .u8 ((s % 256:Nat):Int),.int .u8 ((s / 256 % 256:Nat):Int),.int .u8 ((s / 65536 % 256:Nat):Int),.int .u8 ((s / 16777216 % 256:Nat):Int)] rfl
                            (fun _=>⟨rfl,_,rfl,fun i v hv=>by
                              have:=(H7S.out i v (by simpa using hv)).1
                              by_cases h0:i=0<;>simpa [Addr.add,h0] using this⟩)
                            (by rw [HL7.out];simp) (by simp [Value.oneCell']) (w.heap.size+1) W0 HB7.out.drew hgg ?_;intro w8 HG8 hb8)
      have hfin:OwnBys w8 w.heap.size 5 (some ⟨g,0,none⟩) 72 72 (enc fr):=by
        refine whole_own (by omega) (enc_len fr) (by unfold maxLen;omega) (enc_lt fr) ?_
        rw [HG8.out]
        congr 2
        unfold splice enc
        rw [HM.out,toI_append,List.map_append,List.take_append_of_le_length (by simp [toI,data_len]),List.take_of_length_le (by simp [toI,data_len]),List.drop_of_length_le (by simp [toI,data_len]),toI_append,List.map_append]
        simp [toI,le4]
      go_wp2
      go_ret2
      exact ⟨g,rfl,by rw [HE.out];exact hfin,HBW.out.trans (hb8.mono (by omega))⟩
end Go.Proofs.YtalhdalinpdanaaGreatDoor.frame
