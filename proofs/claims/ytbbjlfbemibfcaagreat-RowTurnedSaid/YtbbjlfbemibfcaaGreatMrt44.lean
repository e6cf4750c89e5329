/-
  BookIR
-/
import Derived.Test.YtbbjlfbemibfcaaGreatMrt17
import Derived.Test.YtbbjlfbemibfcaaGreatMrt35
import Derived.Test.YtbbjlfbemibfcaaGreatMrt09
set_option linter.unusedVariables false
set_option linter.unusedSimpArgs false
namespace Go.Proofs.YtbbjlfbemibfcaaGreat.book
open Go.RowKit Go.Proofs.YtbbjlfbemibfcaaGreat
open Go.Proofs.YtbbjlfbemibfcaaGreat.order (Or open_ worth)
open Go.Proofs.YtbbjlfbemibfcaaGreat.cell (Ce Ex)
open Go.Proofs.YtbbjlfbemibfcaaGreat.rec (Rc)
set_option maxRecDepth 20000
theorem conv_is {P:Program} {w0:World} {D:List Fact} {src dst:TypeId} {k1 k2:IntKind} {n:Int} (hs:(P.underlying src).isSome=true) (hd:P.underlying dst=some (.int k2)) (h:k2.wrap n=n):Yields0 P w0 D (convert src dst (.int k1 n)) (.int k2 n):=fun w _ _=>by
 have hk:P.intKind dst=k2:=by simp [Program.intKind,hd]
 rw [run_convert_int w src dst k1 n hs (by rw [hk];exact hd),hk,h]
def RL {α:Type} (x z:α) (k j:Nat):List α:=List.replicate j x++List.replicate (k - j) z
theorem rl_first {α:Type} {x z:α} {k:Nat} (h:1≤k):(List.replicate k z).take 0++[x].take 1++(List.replicate k z).drop (0+1)=RL x z k 1:=by
 simp [RL,List.drop_replicate]
theorem rl_len {α:Type} {x z:α} {k j:Nat} (h:j≤k):((RL x z k j).take j).length=j:=by
 simp [RL]
theorem rl_next {α:Type} {x z:α} {k j:Nat} (h:j≤k):(RL x z k j).take j++((RL x z k j).take j).take (min j (k - j))++(RL x z k j).drop (j+min j (k - j))=RL x z k (j+min j (k - j)):=by
 have h1:(RL x z k j).take j=List.replicate j x:=by simp [RL]
 have h2:(RL x z k j).drop (j+min j (k - j))=List.replicate (k - (j+min j (k - j))) z:=by
  unfold RL
  rw [List.drop_append,List.drop_replicate,List.drop_replicate,List.length_replicate,show j - (j+min j (k - j))=0 by omega,show k - j - (j+min j (k - j) - j)=k - (j+min j (k - j)) by omega]
  simp
 rw [h1,h2,List.take_replicate,List.replicate_append_replicate]
 unfold RL
 rw [show min (min j (k - j)) j=min j (k - j) by omega]
theorem rl_all {α:Type} {x z:α} {k j:Nat} (h:k≤j) (h2:j≤k):RL x z k j=List.replicate k x:=by
 obtain rfl:j=k:=by omega
 simp [RL]
theorem min_pos {a b:Nat} (h:0 < a) (h2:0 < b):0 < min a b:=by omega
theorem cut_addr {A:Option Addr} {k y size g:Nat} (h:¬ k=y) (e:A=some ⟨g,0,none⟩):cutAt A k y size=some ⟨g,y * size,none⟩:=by
 subst e;simp [cutAt,h,Addr.add];exact fun h=>h.symm
theorem elems_take {α:Type} {R:Rd α} {size:Nat} {w:World} {S:Nat→Prop} {A:Option Addr} {xs:List α} (h:Elems R size w S A xs) (m:Nat):Elems R size w S A (xs.take m):=fun h0=>by
 rw [List.length_take] at h0
 obtain ⟨b,off,e,hb,hj⟩:=h (by omega)
 refine ⟨b,off,e,hb,fun j x hx=>hj j x ?_⟩
 rw [List.getElem?_take] at hx
 split at hx
 ·exact hx
 ·cases hx
theorem xz_fine:xz.fine:=by unfold xz Ex.fine frame.inR;simp
theorem slice_from {P:Program} {t e:TypeId} (ht:P.underlying t=some (.slice e)) {size bytes:Nat} {z:Value} (hinfo:(P.info? e).map (fun i=>(i.zero,i.size,i.bytes))=some (some z,size,bytes)) {A:Option Addr} {n c k:Nat} (hk:k≤n) (w:World) :
  (Instr.sliceAt t (.slice A n c) (some (.int .i64 (k:Int))) none none).run P w = .ok (.slice (cutAt A c k size) (n - k) (c - k)) w:=by
 have hs:(Instr.sliceAt t (.slice A n c) (some (.int .i64 (k:Int))) none none).run P w=(Instr.slice t (.slice A n c) (some (.int .i64 (k:Int))) none none).run P w:=by
  unfold Instr.sliceAt
  rw [Sem.run_bind,run_underlying ht w]
  rfl
 rw [hs,run_cut_from t e size bytes z ht hinfo A n c k hk w]
theorem slice_upto {P:Program} {t e:TypeId} (ht:P.underlying t=some (.slice e)) {size bytes:Nat} {z:Value} (hinfo:(P.info? e).map (fun i=>(i.zero,i.size,i.bytes))=some (some z,size,bytes)) {A:Option Addr} {n c k:Nat} (hk:k≤c) (w:World) :
  (Instr.sliceAt t (.slice A n c) none (some (.int .i64 (k:Int))) none).run P w = .ok (.slice A k c) w:=by
 have hs:(Instr.sliceAt t (.slice A n c) none (some (.int .i64 (k:Int))) none).run P w=(Instr.slice t (.slice A n c) none (some (.int .i64 (k:Int))) none).run P w:=by
  unfold Instr.sliceAt
  rw [Sem.run_bind,run_underlying ht w]
  rfl
 rw [hs,run_cut_upto t e size bytes z ht hinfo A n c k _ rfl hk w]
theorem turns_cast {w0:World} {D fs gs:List Fact} (h:fs=gs) (hs:Turns w0 D fs):Turns w0 D gs:=h▸hs
theorem mul64_k (w:World) (k:Int) (h:funV Tryz.prog w Tryz.f111 #[.int .u64 1,.int .u64 k] (fun v _=>v = .tuple #[.int .u64 0,.int .u64 k]) (.k (.k (.k (.k (.k (.k (.k (.k (.k (.k (.k (.k (.k (.k (.k (.k (.k .z)))))))))))))))))=((.tuple #[.int .u64 0,.int .u64 k]:Value) = .tuple #[.int .u64 0,.int .u64 k])):Calls Tryz.prog 111 #[.int .u64 1,.int .u64 k] w fun e w'=>e = .returned (.tuple #[.int .u64 0,.int .u64 k])∧Below w.heap.size w w' :=
 calls_by (fn:=Tryz.f111) Tryz.func111 h rfl
theorem mul64 (k:Nat) (hk:k≤64) (w:World):Calls Tryz.prog 111 #[.int .u64 1,.int .u64 (k:Int)] w fun e w'=>e = .returned (.tuple #[.int .u64 0,.int .u64 (k:Int)])∧Below w.heap.size w w':=by
 rcases (show k=0∨k=1∨k=2∨k=3∨k=4∨k=5∨k=6∨k=7∨k=8∨k=9∨k=10∨k=11∨k=12∨k=13∨k=14∨k=15∨k=16∨k=17∨k=18∨k=19∨k=20∨k=21∨k=22∨k=23∨k=24∨k=25∨k=26∨k=27∨k=28∨k=29∨k=30∨k=31∨k=32∨k=33∨k=34∨k=35∨k=36∨k=37∨k=38∨k=39∨k=40∨k=41∨k=42∨k=43∨k=44∨k=45∨k=46∨k=47∨k=48∨k=49∨k=50∨k=51∨k=52∨k=53∨k=54∨k=55∨k=56∨k=57∨k=58∨k=59∨k=60∨k=61∨k=62∨k=63∨k=64 by omega) with rfl | rfl | rfl | rfl | rfl | rfl | rfl | rfl | rfl | rfl | rfl | rfl | rfl | rfl | rfl | rfl | rfl | rfl | rfl | rfl | rfl | rfl | rfl | rfl | rfl | rfl | rfl | rfl | rfl | rfl | rfl | rfl | rfl | rfl | rfl | rfl | rfl | rfl | rfl | rfl | rfl | rfl | rfl | rfl | rfl | rfl | rfl | rfl | rfl | rfl | rfl | rfl | rfl | rfl | rfl | rfl | rfl | rfl | rfl | rfl | rfl | rfl | rfl | rfl | rfl
 ·exact mul64_k w 0 (by kernel_rfl)
 ·exact mul64_k w 1 (by kernel_rfl)
 ·exact mul64_k w 2 (by kernel_rfl)
 ·exact mul64_k w 3 (by kernel_rfl)
 ·exact mul64_k w 4 (by kernel_rfl)
 ·exact mul64_k w 5 (by kernel_rfl)
 ·exact mul64_k w 6 (by kernel_rfl)
 ·exact mul64_k w 7 (by kernel_rfl)
 ·exact mul64_k w 8 (by kernel_rfl)
 ·exact mul64_k w 9 (by kernel_rfl)
 ·exact mul64_k w 10 (by kernel_rfl)
 ·exact mul64_k w 11 (by kernel_rfl)
 ·exact mul64_k w 12 (by kernel_rfl)
 ·exact mul64_k w 13 (by kernel_rfl)
 ·exact mul64_k w 14 (by kernel_rfl)
 ·exact mul64_k w 15 (by kernel_rfl)
 ·exact mul64_k w 16 (by kernel_rfl)
 ·exact mul64_k w 17 (by kernel_rfl)
 ·exact mul64_k w 18 (by kernel_rfl)
 ·exact mul64_k w 19 (by kernel_rfl)
 ·exact mul64_k w 20 (by kernel_rfl)
 ·exact mul64_k w 21 (by kernel_rfl)
 ·exact mul64_k w 22 (by kernel_rfl)
 ·exact mul64_k w 23 (by kernel_rfl)
 ·exact mul64_k w 24 (by kernel_rfl)
 ·exact mul64_k w 25 (by kernel_rfl)
 ·exact mul64_k w 26 (by kernel_rfl)
 ·exact mul64_k w 27 (by kernel_rfl)
 ·exact mul64_k w 28 (by kernel_rfl)
 ·exact mul64_k w 29 (by kernel_rfl)
 ·exact mul64_k w 30 (by kernel_rfl)
 ·exact mul64_k w 31 (by kernel_rfl)
 ·exact mul64_k w 32 (by kernel_rfl)
 ·exact mul64_k w 33 (by kernel_rfl)
 ·exact mul64_k w 34 (by kernel_rfl)
 ·exact mul64_k w 35 (by kernel_rfl)
 ·exact mul64_k w 36 (by kernel_rfl)
 ·exact mul64_k w 37 (by kernel_rfl)
 ·exact mul64_k w 38 (by kernel_rfl)
 ·exact mul64_k w 39 (by kernel_rfl)
 ·exact mul64_k w 40 (by kernel_rfl)
 ·exact mul64_k w 41 (by kernel_rfl)
 ·exact mul64_k w 42 (by kernel_rfl)
 ·exact mul64_k w 43 (by kernel_rfl)
 ·exact mul64_k w 44 (by kernel_rfl)
 ·exact mul64_k w 45 (by kernel_rfl)
 ·exact mul64_k w 46 (by kernel_rfl)
 ·exact mul64_k w 47 (by kernel_rfl)
 ·exact mul64_k w 48 (by kernel_rfl)
 ·exact mul64_k w 49 (by kernel_rfl)
 ·exact mul64_k w 50 (by kernel_rfl)
 ·exact mul64_k w 51 (by kernel_rfl)
 ·exact mul64_k w 52 (by kernel_rfl)
 ·exact mul64_k w 53 (by kernel_rfl)
 ·exact mul64_k w 54 (by kernel_rfl)
 ·exact mul64_k w 55 (by kernel_rfl)
 ·exact mul64_k w 56 (by kernel_rfl)
 ·exact mul64_k w 57 (by kernel_rfl)
 ·exact mul64_k w 58 (by kernel_rfl)
 ·exact mul64_k w 59 (by kernel_rfl)
 ·exact mul64_k w 60 (by kernel_rfl)
 ·exact mul64_k w 61 (by kernel_rfl)
 ·exact mul64_k w 62 (by kernel_rfl)
 ·exact mul64_k w 63 (by kernel_rfl)
 ·exact mul64_k w 64 (by kernel_rfl)
theorem mulu (k:Nat) (hk:k≤64)  (w:World):Calls Tryz.prog 83 #[.int .u64 1,.int .u64 (k:Int)] w fun e w'=>e = .returned (.tuple #[.int .u64 0,.int .u64 (k:Int)])∧Below w.heap.size w w' :=
 calls_by (fn:=Tryz.f83) (r:=.tuple #[.int .u64 0,.int .u64 (k:Int)]) (t:=.c (.tuple #[.int .u64 0,.int .u64 (k:Int)]) .z) (X :=
 let k0:Array Value:=#[.int .u64 0,.int .u64 (k:Int)];Gives Tryz.prog w [] 111 #[.int .u64 1,.int .u64 (k:Int)] (.tuple k0)∧(.tuple k0:Value) = .tuple k0) Tryz.func83 (by kernel_rfl)
 (⟨gives (mul64 k hk),rfl⟩)
theorem repE (A:Option Addr) (x0:Ex) (k:Nat) (hk1:1≤k) (hk:k≤64) (w:World) (hx:Elems rdExpo 3 w (Lt w.heap.size) A [x0]):Calls Tryz.prog 48 #[.slice A 1 1,.int .i64 (k:Int)] w fun e w' => ∃ x:Nat,e = .returned (.slice (some ⟨x,0,none⟩) k k)∧Below w.heap.size w w'∧News (fun _=>False) w.heap.size ([ownF rdExpo 3 51 (some ⟨x,0,none⟩) k k (List.replicate k x0)]) w' :=
 calls_mem (fn:=Tryz.f48) (r:=fun (x:Nat)=>.slice (some ⟨x,0,none⟩) k k) (fs:=fun (x:Nat)=>[ownF rdExpo 3 51 (some ⟨x,0,none⟩) k k (List.replicate k x0)]) (t:=.m false (.x (.int .u64 1) (.x (.int .u64 (k:Int)) (.c (.tuple #[.int .u64 0,.int .u64 (k:Int)]) (.k (.k (.m false (.x (.int .i64 (k:Int)) (.w (Nat) none (fun x=>.slice (some ⟨x,0,none⟩) k k) (fun x=>[oX (some ⟨x,0,none⟩) k k (List.replicate k xz)]) (fun x1=>let k0:Option Addr:=some ⟨x1,0,none⟩; .w (Unit) (some 0) (fun x=>.int .i64 1) (fun x=>[oX k0 k k (RL x0 xz k 1)]) (fun x2=>.l (Nat) (fun x=>[(7,.slice k0 k k,none),(8,.int .i64 (x:Int),none)]) (fun x=>[]) [] [] (fun x=>[oX k0 k k (RL x0 xz k x)]) (fun x=>1≤x∧x≤k) (fun x=>k - x) (1:Nat) (fun y3=>.s (.ow [] [] (.x (.slice (cutAt k0 k y3 3) (k - y3) (k - y3)) (.x (.slice k0 y3 k) (.w (Unit) (some 0) (fun x=>.int .i64 ((min y3 (k - y3):Nat):Int)) (fun x=>[oX k0 k k (RL x0 xz k (y3+min y3 (k - y3)))]) (fun x7=>.e (.int .i64 ((y3+min y3 (k - y3):Nat):Int)) .z))))) .z)))))))))))) (X :=
 let k0:Value:=.int .i64 (k:Int);let k1:=List.replicate k xz;let k2:=RL x0 xz k 1;let k3:=([]:List (Option Blk));(decide ((k:Int) < 0))=false∧Yields0 Tryz.prog w [] (convert 3 115 (.int .i64 1)) (.int .u64 1)∧Yields0 Tryz.prog w [] (convert 3 115 k0) (.int .u64 (k:Int))∧Gives Tryz.prog w [] 83 #[.int .u64 1,.int .u64 (k:Int)] (.tuple #[.int .u64 0,.int .u64 (k:Int)])∧(decide ((k:Int) > 9223372036854775807))=false∧Yields0 Tryz.prog w [] (convert 115 3 (.int .u64 (k:Int))) k0∧StepM Tryz.prog w [] (Instr.makeSlice 24 k0 k0) (fun _=>False) (Nat) (fun x=>.slice (some ⟨x,0,none⟩) k k) (fun x=>[oX (some ⟨x,0,none⟩) k k k1])∧∀ x1:Nat,let k4:Option Addr:=some ⟨x1,0,none⟩;StepM Tryz.prog w [oX k4 k k k1] (Builtin.copy_ #[24,24] 3 #[.slice k4 k k,.slice A 1 1]) ((oX k4 k k k1).S) (Unit) (fun x=>.int .i64 1) (fun x=>[oX k4 k k k2])∧∀ x2:Unit,Brings w [oX k4 k k k2] []∧(1≤(1:Nat)∧(1:Nat)≤k)∧(([.slice k4 k k,.int .i64 1]:List Value)=[.slice k4 k k,.int .i64 ((1:Nat):Int)]∧k3=[]∧Turns w [oX k4 k k k2] [oX k4 k k (RL x0 xz k (1:Nat))])∧true=true∧∀ (y3:Nat),let k5:=RL x0 xz k (y3+min y3 (k - y3));let k6:=RL x0 xz k y3;let k7:=((y3+min y3 (k - y3):Nat):Int);let k8:=decide ((y3:Int) < (k:Int));let k9:=((min y3 (k - y3):Nat):Int);(1≤y3∧y3≤k)→∀ τ5:Nat→Value,(k8=true→Imp w [oX k4 k k k6] []∧Yields0 Tryz.prog w [] (Instr.sliceAt 24 (.slice k4 k k) (some (.int .i64 (y3:Int))) none none) (.slice (cutAt k4 k y3 3) (k - y3) (k - y3))∧Yields0 Tryz.prog w [] (Instr.sliceAt 24 (.slice k4 k k) none (some (.int .i64 (y3:Int))) none) (.slice k4 y3 k)∧(∀ x:Unit,Imp w [oX k4 k k k5] [])∧StepM Tryz.prog w [oX k4 k k k6] (Builtin.copy_ #[24,24] 3 #[.slice (cutAt k4 k y3 3) (k - y3) (k - y3),.slice k4 y3 k]) ((oX k4 k k k6).S) (Unit) (fun x=>.int .i64 k9) (fun x=>[oX k4 k k k5])∧∀ x7:Unit,(.int .i64 (IntKind.i64.wrap ((y3:Int)+k9)):Value) = .int .i64 k7∧∃ x' : Nat,(1≤x'∧x'≤k)∧(k - x' < k - y3)∧(([.slice k4 k k,.int .i64 k7]:List Value)=[.slice k4 k k,.int .i64 (x' : Int)]∧k3=[]∧Turns w [oX k4 k k k5] [oX k4 k k (RL x0 xz k x')])∧true=true)∧(k8=false→∃ x:Nat,(.slice k4 k k:Value) = .slice (some ⟨x,0,none⟩) k k∧Turns w [oX k4 k k k6] ([oX (some ⟨x,0,none⟩) k k (List.replicate k x0)]))) Tryz.func48 (by kernel_rfl)
 (⟨by simp only [dq];omega,⟨(conv_is rfl (by kernel_rfl) (by rw [IntKind.wrap_u64];omega)),⟨(conv_is rfl (by kernel_rfl) (by rw [IntKind.wrap_u64];omega)),⟨gives (mulu k hk),⟨by simp only [dq];omega,⟨(conv_is rfl (by kernel_rfl) (by rw [IntKind.wrap_i64];omega)),⟨(make_agg keeps_expo Tryz.underlying24 info_expo rfl (fun _=>⟨rfl,xz_fine⟩) (by omega) (by unfold maxLen;omega)),fun x1=>⟨(step_toV (rl_first hk1) (copy_core (k:=1) keeps_expo leaf_expo (fun h=>h) Tryz.underlying24 info_expo (row_at (j:=0) rfl) (by omega) (fun g e=>by cases e;rfl) rfl (fun w hw _=>⟨_,low_keep keeps_expo (Nat.le_refl _) hx hw⟩) rfl (by show min 1 (k - 0)=1;omega) (by decide))),fun x2=>⟨(fun w _ _=>news_nil),(by omega),⟨rfl,rfl,(turns_sub (.cons_cons _ (List.nil_sublist _)))⟩,rfl,fun y3 I4 τ5=>⟨fun h6=>have h6:(y3:Int) < (k:Int):=(by simpa using h6)
⟨fun w _ ha=>trivial,⟨(fun w _ _=>slice_from Tryz.underlying24 info_expo (by omega) w),⟨(fun w _ _=>slice_upto Tryz.underlying24 info_expo (by omega) w),⟨fun x w _ ha=>trivial,(step_toV (rl_next (by omega)) (copy_core keeps_expo leaf_expo (fun h=>h) Tryz.underlying24 info_expo (row_at (j:=0) rfl) (by omega) (fun g e=>cut_addr (by omega) e) rfl (fun w _ ha=>⟨_,elems_take ((row_at (j:=0) rfl w ha).reads keeps_expo (by decide)) y3⟩) (rl_len (by omega)) rfl (min_pos (by omega) (by omega)))),fun x7=>⟨wrap_is (by omega) (by omega) (by omega),⟨((y3+min y3 (k - y3)):Nat),(by omega),(by omega),⟨rfl,rfl,(turns_sub (.cons_cons _ (List.nil_sublist _)))⟩,rfl⟩⟩⟩⟩⟩⟩,
 fun h6=>have h6:¬ (y3:Int) < (k:Int):=(by simpa using h6)
⟨x1,rfl,turns_cast (by rw [rl_all (show k≤y3 by omega) (by omega)]) (turns_sub (List.Sublist.refl _))⟩⟩⟩⟩⟩⟩⟩⟩⟩⟩⟩)
theorem repI (A:Option Addr) (x0:Int) (k:Nat) (hk1:1≤k) (hk:k≤64) (w:World) (hx:Elems (rdInt .i64) 1 w (Lt w.heap.size) A [x0]):Calls Tryz.prog 49 #[.slice A 1 1,.int .i64 (k:Int)] w fun e w' => ∃ x:Nat,e = .returned (.slice (some ⟨x,0,none⟩) k k)∧Below w.heap.size w w'∧News (fun _=>False) w.heap.size ([ownF (rdInt .i64) 1 2 (some ⟨x,0,none⟩) k k (List.replicate k x0)]) w' :=
 calls_mem (fn:=Tryz.f49) (r:=fun (x:Nat)=>.slice (some ⟨x,0,none⟩) k k) (fs:=fun (x:Nat)=>[ownF (rdInt .i64) 1 2 (some ⟨x,0,none⟩) k k (List.replicate k x0)]) (t:=.m false (.x (.int .u64 1) (.x (.int .u64 (k:Int)) (.c (.tuple #[.int .u64 0,.int .u64 (k:Int)]) (.k (.k (.m false (.x (.int .i64 (k:Int)) (.w (Nat) none (fun x=>.slice (some ⟨x,0,none⟩) k k) (fun x=>[oI (some ⟨x,0,none⟩) k k (List.replicate k 0)]) (fun x1=>let k0:Option Addr:=some ⟨x1,0,none⟩; .w (Unit) (some 0) (fun x=>.int .i64 1) (fun x=>[oI k0 k k (RL x0 0 k 1)]) (fun x2=>.l (Nat) (fun x=>[(7,.slice k0 k k,none),(8,.int .i64 (x:Int),none)]) (fun x=>[]) [] [] (fun x=>[oI k0 k k (RL x0 0 k x)]) (fun x=>1≤x∧x≤k) (fun x=>k - x) (1:Nat) (fun y3=>.s (.ow [] [] (.x (.slice (cutAt k0 k y3 1) (k - y3) (k - y3)) (.x (.slice k0 y3 k) (.w (Unit) (some 0) (fun x=>.int .i64 ((min y3 (k - y3):Nat):Int)) (fun x=>[oI k0 k k (RL x0 0 k (y3+min y3 (k - y3)))]) (fun x7=>.e (.int .i64 ((y3+min y3 (k - y3):Nat):Int)) .z))))) .z)))))))))))) (X :=
 let k0:Value:=.int .i64 (k:Int);let k1:=List.replicate k 0;let k2:=([]:List (Option Blk));(decide ((k:Int) < 0))=false∧Yields0 Tryz.prog w [] (convert 3 115 (.int .i64 1)) (.int .u64 1)∧Yields0 Tryz.prog w [] (convert 3 115 k0) (.int .u64 (k:Int))∧Gives Tryz.prog w [] 83 #[.int .u64 1,.int .u64 (k:Int)] (.tuple #[.int .u64 0,.int .u64 (k:Int)])∧(decide ((k:Int) > 9223372036854775807))=false∧Yields0 Tryz.prog w [] (convert 115 3 (.int .u64 (k:Int))) k0∧StepM Tryz.prog w [] (Instr.makeSlice 25 k0 k0) (fun _=>False) (Nat) (fun x=>.slice (some ⟨x,0,none⟩) k k) (fun x=>[oI (some ⟨x,0,none⟩) k k k1])∧∀ x1:Nat,let k3:Option Addr:=some ⟨x1,0,none⟩;StepM Tryz.prog w [oI k3 k k k1] (Builtin.copy_ #[25,25] 3 #[.slice k3 k k,.slice A 1 1]) ((oI k3 k k k1).S) (Unit) (fun x=>.int .i64 1) (fun x=>[oI k3 k k (RL x0 0 k 1)])∧∀ x2:Unit,Brings w [oI k3 k k (RL x0 0 k 1)] []∧(1≤(1:Nat)∧(1:Nat)≤k)∧(([.slice k3 k k,.int .i64 1]:List Value)=[.slice k3 k k,.int .i64 ((1:Nat):Int)]∧k2=[]∧Turns w [oI k3 k k (RL x0 0 k 1)] [oI k3 k k (RL x0 0 k (1:Nat))])∧true=true∧∀ (y3:Nat),let k4:=RL x0 0 k (y3+min y3 (k - y3));let k5:=RL x0 0 k y3;let k6:=((y3+min y3 (k - y3):Nat):Int);let k7:=decide ((y3:Int) < (k:Int));let k8:=((min y3 (k - y3):Nat):Int);(1≤y3∧y3≤k)→∀ τ5:Nat→Value,(k7=true→Imp w [oI k3 k k k5] []∧Yields0 Tryz.prog w [] (Instr.sliceAt 25 (.slice k3 k k) (some (.int .i64 (y3:Int))) none none) (.slice (cutAt k3 k y3 1) (k - y3) (k - y3))∧Yields0 Tryz.prog w [] (Instr.sliceAt 25 (.slice k3 k k) none (some (.int .i64 (y3:Int))) none) (.slice k3 y3 k)∧(∀ x:Unit,Imp w [oI k3 k k k4] [])∧StepM Tryz.prog w [oI k3 k k k5] (Builtin.copy_ #[25,25] 3 #[.slice (cutAt k3 k y3 1) (k - y3) (k - y3),.slice k3 y3 k]) ((oI k3 k k k5).S) (Unit) (fun x=>.int .i64 k8) (fun x=>[oI k3 k k k4])∧∀ x7:Unit,(.int .i64 (IntKind.i64.wrap ((y3:Int)+k8)):Value) = .int .i64 k6∧∃ x' : Nat,(1≤x'∧x'≤k)∧(k - x' < k - y3)∧(([.slice k3 k k,.int .i64 k6]:List Value)=[.slice k3 k k,.int .i64 (x' : Int)]∧k2=[]∧Turns w [oI k3 k k k4] [oI k3 k k (RL x0 0 k x')])∧true=true)∧(k7=false→∃ x:Nat,(.slice k3 k k:Value) = .slice (some ⟨x,0,none⟩) k k∧Turns w [oI k3 k k k5] ([oI (some ⟨x,0,none⟩) k k (List.replicate k x0)]))) Tryz.func49 (by kernel_rfl)
 (⟨by simp only [dq];omega,⟨(conv_is rfl (by kernel_rfl) (by rw [IntKind.wrap_u64];omega)),⟨(conv_is rfl (by kernel_rfl) (by rw [IntKind.wrap_u64];omega)),⟨gives (mulu k hk),⟨by simp only [dq];omega,⟨(conv_is rfl (by kernel_rfl) (by rw [IntKind.wrap_i64];omega)),⟨(make_int Tryz.underlying25 info_i64 (by omega) (by unfold maxLen;omega)),fun x1=>⟨(step_toV (rl_first hk1) (copy_core (k:=1) (keeps_int _) (leaf_int _) (fun h=>h) Tryz.underlying25 info_i64 (row_at (j:=0) rfl) (by omega) (fun g e=>by cases e;rfl) rfl (fun w hw _=>⟨_,low_keep (keeps_int _) (Nat.le_refl _) hx hw⟩) rfl (by show min 1 (k - 0)=1;omega) (by decide))),fun x2=>⟨(fun w _ _=>news_nil),(by omega),⟨rfl,rfl,(turns_sub (.cons_cons _ (List.nil_sublist _)))⟩,rfl,fun y3 I4 τ5=>⟨fun h6=>have h6:(y3:Int) < (k:Int):=(by simpa using h6)
⟨fun w _ ha=>trivial,⟨(fun w _ _=>slice_from Tryz.underlying25 info_i64 (by omega) w),⟨(fun w _ _=>slice_upto Tryz.underlying25 info_i64 (by omega) w),⟨fun x w _ ha=>trivial,(step_toV (rl_next (by omega)) (copy_core (keeps_int _) (leaf_int _) (fun h=>h) Tryz.underlying25 info_i64 (row_at (j:=0) rfl) (by omega) (fun g e=>cut_addr (by omega) e) rfl (fun w _ ha=>⟨_,elems_take ((row_at (j:=0) rfl w ha).reads (keeps_int _) (by decide)) y3⟩) (rl_len (by omega)) rfl (min_pos (by omega) (by omega)))),fun x7=>⟨wrap_is (by omega) (by omega) (by omega),⟨((y3+min y3 (k - y3)):Nat),(by omega),(by omega),⟨rfl,rfl,(turns_sub (.cons_cons _ (List.nil_sublist _)))⟩,rfl⟩⟩⟩⟩⟩⟩,
 fun h6=>have h6:¬ (y3:Int) < (k:Int):=(by simpa using h6)
⟨x1,rfl,turns_cast (by rw [rl_all (show k≤y3 by omega) (by omega)]) (turns_sub (List.Sublist.refl _))⟩⟩⟩⟩⟩⟩⟩⟩⟩⟩⟩)
end Go.Proofs.YtbbjlfbemibfcaaGreat.book
