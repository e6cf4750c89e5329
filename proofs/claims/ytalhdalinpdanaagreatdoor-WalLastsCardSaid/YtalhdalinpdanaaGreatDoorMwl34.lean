/-
  WalI3, WalI4
-/
import Derived.Test.YtalhdalinpdanaaGreatDoorMwl30
import Derived.Test.YtalhdalinpdanaaGreatDoorMwl31
import Derived.Test.YtalhdalinpdanaaGreatDoorMwl33
set_option linter.unusedVariables false
set_option linter.unusedSimpArgs false
section
namespace Go.Proofs.YtalhdalinpdanaaGreatDoor.wal
open Go.RowKit Go.Proofs.YtalhdalinpdanaaGreatDoor Go.Proofs.YtalhdalinpdanaaGreatDoor.frame Go.Proofs.YtalhdalinpdanaaGreatDoor.disk
set_option maxRecDepth 20000
theorem any_idxY {α:Type} {p:α→Bool} {l:List α} (h:¬ idxI p l < 0):l.any p=true:=by
 have hl:=(idx_nat h).2
 rw [List.any_eq_true]
 exact ⟨_,List.getElem_mem hl,List.findIdx_getElem (w:=hl)⟩
theorem any_idxN {α:Type} {p:α→Bool} {l:List α} (h:idxI p l < 0):l.any p=false:=by
 rw [← Bool.not_eq_true,List.any_eq_true]
 rintro ⟨x,hx,hp⟩
 have:=List.findIdx_lt_length_of_exists (p:=p) ⟨x,hx,hp⟩
 unfold idxI at h
 rw [if_pos this] at h
 omega
def waitsL (s:Wl):Bool:=decide (s.ws.length≤32∧(s.ws.length:Int)=s.n - 1 - s.u) && scan.row s.ws (s.u+1) s.e && !s.ws.any (fun x:FrameD => !decide (x.e=s.e))
def segB (s:Wl):Bool:=decide ((s.g=0∧s.c=0)∨(1≤s.g∧1≤s.c∧s.c≤8∧s.g=s.u+1 - s.c))
theorem waits_any {s:Wl} (h:s.ws.length≤32∧(s.ws.length:Int)=s.n - 1 - s.u) (h1:scan.row s.ws (s.u+1) s.e=true):waitsL s = !s.ws.any (fun x:FrameD => !decide (x.e=s.e)):=by
 unfold waitsL;rw [h1,decide_eq_true h];rfl
theorem waits_yes {s:Wl} (h:s.ws.length≤32∧(s.ws.length:Int)=s.n - 1 - s.u) (h1:scan.row s.ws (s.u+1) s.e=true) (h2:s.ws.any (fun x:FrameD => !decide (x.e=s.e))=false):waitsL s=true:=by
 unfold waitsL;rw [h1,h2,decide_eq_true h];rfl
theorem waits_no {s:Wl} (h:¬ (s.ws.length≤32∧(s.ws.length:Int)=s.n - 1 - s.u)∨scan.row s.ws (s.u+1) s.e=false∨s.ws.any (fun x:FrameD => !decide (x.e=s.e))=true):waitsL s=false:=by
 unfold waitsL
 rcases h with h | h | h
 ·rw [decide_eq_false h];rfl
 ·rw [h];simp
 ·rw [h];simp
theorem row_ep {l:List FrameD} {n a b:Int} (h:∀ f ∈ l,f.e=b) (hab:a≤b):scan.row l n a=scan.row l n b:=by
 cases l with
 |nil=>rfl
 |cons f l =>
  have:=h f (by simp)
  simp [scan.row,this,hab]
theorem right_split (s:Wl):right s=(decide (1≤s.e∧s.e≤1000000∧1≤s.n∧s.n≤1000000001∧0≤s.u∧s.u < s.n) && waitsL s && segB s):=by
 rw [Bool.eq_iff_iff]
 unfold right waitsL segB
 simp only [Bool.and_eq_true,decide_eq_true_eq,List.all_eq_true,Bool.not_eq_true',List.any_eq_false,Bool.not_eq_true,Bool.not_eq_false',decide_eq_false_iff_not,Decidable.not_not]
 constructor
 ·rintro ⟨⟨⟨h1,h2⟩,h3⟩,h4⟩
  exact ⟨⟨by omega,⟨by omega,by rw [← row_ep (a:=0) h3 (by omega)];exact h2⟩,h3⟩,by omega⟩
 ·rintro ⟨⟨h1,⟨h2,h3⟩,h4⟩,h5⟩
  exact ⟨⟨⟨by omega,by rw [row_ep (a:=0) h4 (by omega)];exact h3⟩,h4⟩,by omega⟩
theorem right_yes {s:Wl} (h:1≤s.e∧s.e≤1000000∧1≤s.n∧s.n≤1000000001∧0≤s.u∧s.u < s.n) (h1:waitsL s=true) (h2:segB s=true):right s=true:=by
 rw [right_split,h1,h2,decide_eq_true h];rfl
theorem right_no {s:Wl} (h:¬ (1≤s.e∧s.e≤1000000∧1≤s.n∧s.n≤1000000001∧0≤s.u∧s.u < s.n)∨waitsL s=false∨segB s=false):right s=false:=by
 rw [right_split]
 rcases h with h | h | h
 ·rw [decide_eq_false h];rfl
 ·rw [h];simp
 ·rw [h];simp
theorem v_above (n:Int) (g:Nat) (v:Jv) (s:Wl)  (w:World) (hb:Reads0 w [] g 0 (jc v s)):Calls Tryz.prog 64 #[.int .i64 n,.pointer (some ⟨g,0,none⟩)] w fun e w'=>e = .returned (.bool (decide (s.u < n)))∧Below w.heap.size w w' :=
 calls_by (fn:=Tryz.f64) (r:=.bool (decide (s.u < n))) (t:=.x (.int .i64 s.u) (.s .z .z)) (X :=
 Yields0 Tryz.prog w [] (Instr.loadAt 2 (.pointer (some ⟨g,2,none⟩))) (.int .i64 s.u)∧((decide (n > s.u))=true→((.bool true:Value) = .bool (decide (s.u < n))))∧((decide (n > s.u))=false→((.bool false:Value) = .bool (decide (s.u < n))))) Tryz.func64 (by kernel_rfl)
 (⟨(low_load hb Tryz.underlying2 rfl rfl),⟨fun h1=>have h1:s.u < n:=(by simpa using h1)
(by rw [show decide (s.u < n)=true from decide_eq_true (by omega)]),
 fun h1=>have h1:¬ s.u < n:=(by simpa using h1)
(by rw [show decide (s.u < n)=false from decide_eq_false (by omega)])⟩⟩)
theorem v_other (f:FrameD) (g:Nat) (v:Jv) (s:Wl)  (w:World) (hb:Reads0 w [] g 0 (jc v s)):Calls Tryz.prog 60 #[.agg (fc f),.pointer (some ⟨g,0,none⟩)] w fun e w'=>e = .returned (.bool (!decide (f.e=s.e)))∧Below w.heap.size w w' :=
 calls_by (fn:=Tryz.f60) (r:=.bool (!decide (f.e=s.e))) (t:=.x (.int .i64 s.e) (.s .z .z)) (X :=
 let k0 := !decide (f.e=s.e); ∀ g0:Nat,Yields0 Tryz.prog w [] (Instr.loadAt 2 (.pointer (some ⟨g,0,none⟩))) (.int .i64 s.e)∧(k0=true→((.bool true:Value) = .bool k0))∧(k0=false→((.bool false:Value) = .bool k0))) Tryz.func60 (by kernel_rfl)
 (fun g0=>⟨(low_load hb Tryz.underlying2 rfl rfl),⟨fun h1=>have h1:¬ f.e=s.e:=(by simpa using h1)
(by rw [show decide (f.e=s.e)=false from decide_eq_false (by omega)];rfl),
 fun h1=>have h1:f.e=s.e:=(by simpa using h1)
(by rw [show decide (f.e=s.e)=true from decide_eq_true (by omega)];rfl)⟩⟩)
theorem v_below1 (f:FrameD) (g:Nat) (n:Int)  (w:World) (hb:Reads0 w [] g 0 #[.int .i64 n]):Calls Tryz.prog 96 #[.agg (fc f),.pointer (some ⟨g,0,none⟩)] w fun e w'=>e = .returned (.bool (decide (f.l < n)))∧Below w.heap.size w w' :=
 calls_by (fn:=Tryz.f96) (r:=.bool (decide (f.l < n))) (t:=.x (.int .i64 n) (.s .z .z)) (X :=
 let k0:=decide (f.l < n); ∀ g0:Nat,Yields0 Tryz.prog w [] (Instr.loadAt 2 (.pointer (some ⟨g,0,none⟩))) (.int .i64 n)∧(k0=true→((.bool true:Value) = .bool k0))∧(k0=false→((.bool false:Value) = .bool k0))) Tryz.func96 (by kernel_rfl)
 (fun g0=>⟨(low_load hb Tryz.underlying2 rfl rfl),⟨fun h1=>have h1:f.l < n:=(by simpa using h1)
(by rw [show decide (f.l < n)=true from decide_eq_true (by omega)]),
 fun h1=>have h1:¬ f.l < n:=(by simpa using h1)
(by rw [show decide (f.l < n)=false from decide_eq_false (by omega)])⟩⟩)
theorem v_ixabove (A:Option Addr) (c:Nat) (l:List Int) (g:Nat) (v:Jv) (s:Wl)  (w:World) (hx:Elems (rdInt .i64) 1 w (Lt w.heap.size) A l) (hm:l.length≤1000000) (hb:Reads0 w [] g 0 (jc v s)):Calls Tryz.prog 103 #[.slice A l.length c,.func (.func 64) #[] #[.pointer (some ⟨g,0,none⟩)]] w fun e w'=>e = .returned (.int .i64 (idxI (fun x:Int=>decide (s.u < x)) l))∧Below w.heap.size w w' :=
 calls_by (fn:=Tryz.f103) (r:=.int .i64 (idxI (fun x:Int=>decide (s.u < x)) l)) (t:=.l (Nat) (fun x=>[(0,.slice A l.length c,none),(1,.func (.func 64) #[] #[.pointer (some ⟨g,0,none⟩)],none),(7,.int .i64 (l.length:Int),none),(8,.int .i64 (x:Int),none)]) (fun x=>[]) [] [] (fun x=>[]) (fun x=>x≤l.length∧∀ j,j < x→(decide (s.u < (l.getD j 0)))=false) (fun x=>l.length - x) (0:Nat) (fun y1=>.s (.p (blkA A) (offA A+y1 * 1) #[.int .i64 (l.getD y1 0)] (.cs (decide (s.u < (l.getD y1 0))) .z (.e (.int .i64 ((y1+1:Nat):Int)) .z))) .z)) (X :=
 let k0:Array Value:=#[.pointer (some ⟨g,0,none⟩)];let k1:=(l.length:Int);let k2:=([]:List (Option Blk));Brings w [] []∧((0:Nat)≤l.length∧∀ j,j < (0:Nat)→(decide (s.u < (l.getD j 0)))=false)∧(([.slice A l.length c,.func (.func 64) #[] k0,.int .i64 k1,.int .i64 0]:List Value)=[.slice A l.length c,.func (.func 64) #[] k0,.int .i64 k1,.int .i64 ((0:Nat):Int)]∧k2=[]∧Turns w [] [])∧true=true∧∀ (y1:Nat),let k3:=decide (s.u < (l.getD y1 0));let k4:=decide ((y1:Int) < k1);(y1≤l.length∧∀ j,j < y1→(decide (s.u < (l.getD j 0)))=false)→∀ τ3:Nat→Value,(k4=true→Yields0 Tryz.prog w [] (Instr.indexAt 47 (.slice A l.length c) (.int .i64 (y1:Int))) (.pointer (some ⟨blkA A,offA A+y1 * 1,none⟩))∧Reads0 w [] (blkA A) (offA A+y1 * 1) #[.int .i64 (l.getD y1 0)]∧Gives Tryz.prog w [] 64 #[.int .i64 (l.getD y1 0),.pointer (some ⟨g,0,none⟩)] (.bool k3)∧(k3=true→((.int .i64 (y1:Int):Value) = .int .i64 (idxI (fun x:Int=>decide (s.u < x)) l)))∧(k3=false→(.int .i64 (IntKind.i64.wrap ((y1:Int)+1)):Value) = .int .i64 ((y1+1:Nat):Int)∧∃ x' : Nat,(x'≤l.length∧∀ j,j < x'→(decide (s.u < (l.getD j 0)))=false)∧(l.length - x' < l.length - y1)∧(([.slice A l.length c,.func (.func 64) #[] k0,.int .i64 k1,.int .i64 ((y1+1:Nat):Int)]:List Value)=[.slice A l.length c,.func (.func 64) #[] k0,.int .i64 k1,.int .i64 (x' : Int)]∧k2=[]∧Turns w [] [])∧true=true))∧(k4=false→((.int .i64 (-1):Value) = .int .i64 (idxI (fun x:Int=>decide (s.u < x)) l)))) Tryz.func103 (by kernel_rfl)
 (⟨(fun w _ _=>news_nil),⟨Nat.zero_le _,fun j hj=>absurd hj (Nat.not_lt_zero j)⟩,⟨rfl,rfl,(turns_sub (List.nil_sublist _))⟩,rfl,fun y1 I2 τ3=>⟨fun h4=>have h4:(y1:Int) < (l.length:Int):=(by simpa using h4)
⟨(low_index Tryz.underlying47 info_i64 int_cells (Nat.le_refl _) hx rfl (by omega)),(low_reads int_cells (Nat.le_refl _) hx (at_getD (by omega))),⟨(fun w hw _=>v_above (l.getD y1 0) g v s w (reads_later hb hw)),fun h5=>(by rw [idx_at (p:=(fun x:Int=>decide (s.u < x))) (z:=0) (by omega) I2.2 h5]),
 fun h5=>⟨wrap_is (by omega) (by omega) (by omega),⟨((y1+1):Nat),⟨by omega,lt_step I2.2 h5⟩,(by omega),⟨rfl,rfl,(turns_sub (List.nil_sublist _))⟩,rfl⟩⟩⟩⟩,
 fun h4=>have h4:¬ (y1:Int) < (l.length:Int):=(by simpa using h4)
(by rw [idx_none (p:=(fun x:Int=>decide (s.u < x))) (z:=0) (fun j hj=>I2.2 j (by omega))])⟩⟩)
theorem v_anyabove (A:Option Addr) (c:Nat) (l:List Int) (g:Nat) (v:Jv) (s:Wl)  (w:World) (hx:Elems (rdInt .i64) 1 w (Lt w.heap.size) A l) (hm:l.length≤1000000) (hb:Reads0 w [] g 0 (jc v s)):Calls Tryz.prog 65 #[.slice A l.length c,.func (.func 64) #[] #[.pointer (some ⟨g,0,none⟩)]] w fun e w'=>e = .returned (.bool (l.any (fun x:Int=>decide (s.u < x))))∧Below w.heap.size w w' :=
 calls_by (fn:=Tryz.f65) (r:=.bool (l.any (fun x:Int=>decide (s.u < x)))) (t:=.c (.int .i64 (idxI (fun x:Int=>decide (s.u < x)) l)) (.s .z .z)) (X :=
 Gives Tryz.prog w [] 103 #[.slice A l.length c,.func (.func 64) #[] #[.pointer (some ⟨g,0,none⟩)]] (.int .i64 (idxI (fun x:Int=>decide (s.u < x)) l))∧((decide ((idxI (fun x:Int=>decide (s.u < x)) l) ≥ 0))=true→((.bool true:Value) = .bool (l.any (fun x:Int=>decide (s.u < x)))))∧((decide ((idxI (fun x:Int=>decide (s.u < x)) l) ≥ 0))=false→((.bool false:Value) = .bool (l.any (fun x:Int=>decide (s.u < x)))))) Tryz.func65 (by kernel_rfl)
 (⟨(fun w1 hw _=>v_ixabove A c l g v s w1 (hx.keep (keeps_int _) (below_alike hw) (fun _ h=>Nat.lt_of_lt_of_le h hw.size)) hm (reads_later hb hw)),⟨fun h1=>have h1:¬ (idxI (fun x:Int=>decide (s.u < x)) l) < 0:=(by simpa using h1)
(by rw [any_idxY (p:=(fun x:Int=>decide (s.u < x))) h1]),
 fun h1=>have h1:(idxI (fun x:Int=>decide (s.u < x)) l) < 0:=(by simpa using h1)
(by rw [any_idxN (p:=(fun x:Int=>decide (s.u < x))) h1])⟩⟩)
theorem v_ixother (A:Option Addr) (c:Nat) (l:List FrameD) (g:Nat) (v:Jv) (s:Wl)  (w:World) (hx:Elems rdFrame 9 w (Lt w.heap.size) A l) (hm:l.length≤1000000) (hb:Reads0 w [] g 0 (jc v s)):Calls Tryz.prog 95 #[.slice A l.length c,.func (.func 60) #[] #[.pointer (some ⟨g,0,none⟩)]] w fun e w'=>e = .returned (.int .i64 (idxI (fun x:FrameD => !decide (x.e=s.e)) l))∧Below w.heap.size w w' :=
 calls_by (fn:=Tryz.f95) (r:=.int .i64 (idxI (fun x:FrameD => !decide (x.e=s.e)) l)) (t:=.l (Nat) (fun x=>[(0,.slice A l.length c,none),(1,.func (.func 60) #[] #[.pointer (some ⟨g,0,none⟩)],none),(7,.int .i64 (l.length:Int),none),(8,.int .i64 (x:Int),none)]) (fun x=>[]) [] [] (fun x=>[]) (fun x=>x≤l.length∧∀ j,j < x→(!decide ((l.getD j frz).e=s.e))=false) (fun x=>l.length - x) (0:Nat) (fun y1=>.s (.p (blkA A) (offA A+y1 * 9) (fc (l.getD y1 frz)) (.cs (!decide ((l.getD y1 frz).e=s.e)) .z (.e (.int .i64 ((y1+1:Nat):Int)) .z))) .z)) (X :=
 let k0:Array Value:=#[.pointer (some ⟨g,0,none⟩)];let k1:=(l.length:Int);let k2:=([]:List (Option Blk));Brings w [] []∧((0:Nat)≤l.length∧∀ j,j < (0:Nat)→(!decide ((l.getD j frz).e=s.e))=false)∧(([.slice A l.length c,.func (.func 60) #[] k0,.int .i64 k1,.int .i64 0]:List Value)=[.slice A l.length c,.func (.func 60) #[] k0,.int .i64 k1,.int .i64 ((0:Nat):Int)]∧k2=[]∧Turns w [] [])∧true=true∧∀ (y1:Nat),let k4:=l.getD y1 frz;let k3 := !decide (k4.e=s.e);let k5:=decide ((y1:Int) < k1);(y1≤l.length∧∀ j,j < y1→(!decide ((l.getD j frz).e=s.e))=false)→∀ τ3:Nat→Value,(k5=true→Yields0 Tryz.prog w [] (Instr.indexAt 22 (.slice A l.length c) (.int .i64 (y1:Int))) (.pointer (some ⟨blkA A,offA A+y1 * 9,none⟩))∧Reads0 w [] (blkA A) (offA A+y1 * 9) (fc k4)∧Gives Tryz.prog w [] 60 #[.agg (fc k4),.pointer (some ⟨g,0,none⟩)] (.bool k3)∧(k3=true→((.int .i64 (y1:Int):Value) = .int .i64 (idxI (fun x:FrameD => !decide (x.e=s.e)) l)))∧(k3=false→(.int .i64 (IntKind.i64.wrap ((y1:Int)+1)):Value) = .int .i64 ((y1+1:Nat):Int)∧∃ x' : Nat,(x'≤l.length∧∀ j,j < x'→(!decide ((l.getD j frz).e=s.e))=false)∧(l.length - x' < l.length - y1)∧(([.slice A l.length c,.func (.func 60) #[] k0,.int .i64 k1,.int .i64 ((y1+1:Nat):Int)]:List Value)=[.slice A l.length c,.func (.func 60) #[] k0,.int .i64 k1,.int .i64 (x' : Int)]∧k2=[]∧Turns w [] [])∧true=true))∧(k5=false→((.int .i64 (-1):Value) = .int .i64 (idxI (fun x:FrameD => !decide (x.e=s.e)) l)))) Tryz.func95 (by kernel_rfl)
 (⟨(fun w _ _=>news_nil),⟨Nat.zero_le _,fun j hj=>absurd hj (Nat.not_lt_zero j)⟩,⟨rfl,rfl,(turns_sub (List.nil_sublist _))⟩,rfl,fun y1 I2 τ3=>⟨fun h4=>have h4:(y1:Int) < (l.length:Int):=(by simpa using h4)
⟨(low_index Tryz.underlying22 info_frame frame_cells (Nat.le_refl _) hx rfl (by omega)),(low_reads frame_cells (Nat.le_refl _) hx (at_getD (by omega))),⟨(fun w hw _=>v_other (l.getD y1 frz) g v s w (reads_later hb hw)),fun h5=>(by rw [idx_at (p:=(fun x:FrameD => !decide (x.e=s.e))) (z:=frz) (by omega) I2.2 h5]),
 fun h5=>⟨wrap_is (by omega) (by omega) (by omega),⟨((y1+1):Nat),⟨by omega,lt_step I2.2 h5⟩,(by omega),⟨rfl,rfl,(turns_sub (List.nil_sublist _))⟩,rfl⟩⟩⟩⟩,
 fun h4=>have h4:¬ (y1:Int) < (l.length:Int):=(by simpa using h4)
(by rw [idx_none (p:=(fun x:FrameD => !decide (x.e=s.e))) (z:=frz) (fun j hj=>I2.2 j (by omega))])⟩⟩)
theorem v_anyother (A:Option Addr) (c:Nat) (l:List FrameD) (g:Nat) (v:Jv) (s:Wl)  (w:World) (hx:Elems rdFrame 9 w (Lt w.heap.size) A l) (hm:l.length≤1000000) (hb:Reads0 w [] g 0 (jc v s)):Calls Tryz.prog 62 #[.slice A l.length c,.func (.func 60) #[] #[.pointer (some ⟨g,0,none⟩)]] w fun e w'=>e = .returned (.bool (l.any (fun x:FrameD => !decide (x.e=s.e))))∧Below w.heap.size w w' :=
 calls_by (fn:=Tryz.f62) (r:=.bool (l.any (fun x:FrameD => !decide (x.e=s.e)))) (t:=.c (.int .i64 (idxI (fun x:FrameD => !decide (x.e=s.e)) l)) (.s .z .z)) (X :=
 Gives Tryz.prog w [] 95 #[.slice A l.length c,.func (.func 60) #[] #[.pointer (some ⟨g,0,none⟩)]] (.int .i64 (idxI (fun x:FrameD => !decide (x.e=s.e)) l))∧((decide ((idxI (fun x:FrameD => !decide (x.e=s.e)) l) ≥ 0))=true→((.bool true:Value) = .bool (l.any (fun x:FrameD => !decide (x.e=s.e)))))∧((decide ((idxI (fun x:FrameD => !decide (x.e=s.e)) l) ≥ 0))=false→((.bool false:Value) = .bool (l.any (fun x:FrameD => !decide (x.e=s.e)))))) Tryz.func62 (by kernel_rfl)
 (⟨(fun w1 hw _=>v_ixother A c l g v s w1 (hx.keep keeps_frame (below_alike hw) (fun _ h=>Nat.lt_of_lt_of_le h hw.size)) hm (reads_later hb hw)),⟨fun h1=>have h1:¬ (idxI (fun x:FrameD => !decide (x.e=s.e)) l) < 0:=(by simpa using h1)
(by rw [any_idxY (p:=(fun x:FrameD => !decide (x.e=s.e))) h1]),
 fun h1=>have h1:(idxI (fun x:FrameD => !decide (x.e=s.e)) l) < 0:=(by simpa using h1)
(by rw [any_idxN (p:=(fun x:FrameD => !decide (x.e=s.e))) h1])⟩⟩)
section
variable {w0:World} {D:List Fact} {v:Jv} {s:Wl}
theorem g_row {A:Option Addr} {c:Nat} {l:List FrameD} {n e:Int} (h:Elems rdFrame 9 w0 (Lt w0.heap.size) A l) (hm:l.length≤100000):Gives Tryz.prog w0 D 61 #[.slice A l.length c,.int .i64 n,.int .i64 e] (.bool (scan.row l n e)):=fun w hw _ =>
 scan.row_of w (h.keep keeps_frame (below_alike hw) (fun _ h=>Nat.lt_of_lt_of_le h hw.size)) (Nat.le_refl _) rfl hm rfl
theorem lent_block {g:Nat} {cs:Array Value} {T:TypeId} {w:World} (h:All (D++[cellsF g cs T]) w):w.heap[g]?=some (.cells cs T (0,0)):=All_iff.1 h (cellsF g cs T) (List.mem_append_right _ (List.mem_singleton_self _))
theorem g_other {g:Nat} {T:TypeId} (h:InJ w0 (Lt w0.heap.size) v s) (hm:s.ws.length≤1000000):Gives Tryz.prog w0 (D++[cellsF g (jc v s) T]) 62 #[.slice v.A s.ws.length v.c,.func (.func 60) #[] #[.pointer (some ⟨g,0,none⟩)]] (.bool (s.ws.any (fun x:FrameD => !decide (x.e=s.e)))):=fun w hw ha =>
 v_anyother v.A v.c s.ws g v s w (h.f.keep keeps_frame (below_alike hw) (fun _ h=>Nat.lt_of_lt_of_le h hw.size)) hm (reads_block (lent_block ha))
end
theorem v_waits (v:Jv) (s:Wl)  (w:World) (h:InJ w (Lt w.heap.size) v s) (hr:0≤s.u∧s.u < s.n∧s.n≤1000000001):Calls Tryz.prog 33 #[.agg (jc v s)] w fun e w'=>e = .returned (.bool (waitsL s))∧Below w.heap.size w w' :=
 calls_by (fn:=Tryz.f33) (r:=.bool (waitsL s)) (t:=.s (.k (.e (.int .i64 (s.n - 1)) (.e (.int .i64 ((s.n - 1) - s.u)) (.s (.k (.e (.int .i64 (s.u+1)) (.cs (scan.row s.ws (s.u+1) s.e) (.k (.cB 0 (.bool (s.ws.any (fun x:FrameD => !decide (x.e=s.e)))) .z)) (.k .z)))) (.k (.k .z)))))) (.k (.k (.k .z)))) (X :=
 let k0:=(.bool false:Value) = .bool (waitsL s);let k1:=scan.row s.ws (s.u+1) s.e;let k2:=(s.ws.length:Int);let k3:=(s.n - 1) - s.u; ∀ g0:Nat,((decide (k2≤32))=true→(.int .i64 (IntKind.i64.wrap (s.n - 1)):Value) = .int .i64 (s.n - 1)∧(.int .i64 (IntKind.i64.wrap k3):Value) = .int .i64 k3∧((decide (k2=k3))=true→(.int .i64 (IntKind.i64.wrap (s.u+1)):Value) = .int .i64 (s.u+1)∧Gives Tryz.prog w [] 61 #[.slice v.A s.ws.length v.c,.int .i64 (s.u+1),.int .i64 s.e] (.bool k1)∧(k1=true→Gives Tryz.prog w ([]++[cellsF g0 (jc v s) 24]) 62 #[.slice v.A s.ws.length v.c,.func (.func 60) #[] #[.pointer (some ⟨g0,0,none⟩)]] (.bool (s.ws.any (fun x:FrameD => !decide (x.e=s.e))))∧((.bool (!(s.ws.any (fun x:FrameD => !decide (x.e=s.e)))):Value) = .bool (waitsL s)))∧(k1=false→k0))∧((decide (k2=k3))=false→k0))∧((decide (k2≤32))=false→k0)) Tryz.func33 (by kernel_rfl)
 (fun g0=>⟨fun h1=>have h1:¬ 32 < (s.ws.length:Int):=(by simpa using h1)
⟨wrap_is rfl (by omega) (by omega),⟨wrap_is rfl (by omega) (by omega),⟨fun h2=>have h2:(s.ws.length:Int)=((s.n - 1) - s.u):=(by simpa using h2)
⟨wrap_is rfl (by omega) (by omega),⟨(g_row h.f (by omega)),fun h3=>⟨(g_other h (by omega)),(by rw [waits_any (by omega) h3])⟩,
 fun h3=>(by rw [waits_no (.inr (.inl h3))])⟩⟩,
 fun h2=>have h2:¬ (s.ws.length:Int)=((s.n - 1) - s.u):=(by simpa using h2)
(by rw [waits_no (.inl (by omega))])⟩⟩⟩,
 fun h1=>have h1:32 < (s.ws.length:Int):=(by simpa using h1)
(by rw [waits_no (.inl (by omega))])⟩)
theorem v_atseg (v:Jv) (s:Wl)  (w:World) (hr:0≤s.u∧s.u < s.n∧s.n≤1000000001):Calls Tryz.prog 34 #[.agg (jc v s)] w fun e w'=>e = .returned (.bool (segB s))∧Below w.heap.size w w' :=
 calls_by (fn:=Tryz.f34) (r:=.bool (segB s)) (t:=.s (.k (.s .z (.m false (.k (.k (.k .z)))))) (.k (.s (.k (.s (.k (.s (.k (.e (.int .i64 (s.u+1)) (.e (.int .i64 ((s.u+1) - s.c)) (.s .z .z)))) (.k .z))) (.k (.k .z)))) (.k (.k (.k .z)))))) (X :=
 let k0:=(.bool false:Value) = .bool (segB s);let k1:=(s.u+1) - s.c;let k2:=(.bool true:Value) = .bool (segB s);let k3:=decide (s.g ≥ 1); ∀ g0:Nat,((decide (s.g=0))=true→((decide (s.c=0))=true→k2)∧((decide (s.c=0))=false→k3=false∧k0))∧((decide (s.g=0))=false→(k3=true→((decide (s.c ≥ 1))=true→((decide (s.c≤8))=true→(.int .i64 (IntKind.i64.wrap (s.u+1)):Value) = .int .i64 (s.u+1)∧(.int .i64 (IntKind.i64.wrap k1):Value) = .int .i64 k1∧((decide (s.g=k1))=true→k2)∧((decide (s.g=k1))=false→k0))∧((decide (s.c≤8))=false→k0))∧((decide (s.c ≥ 1))=false→k0))∧(k3=false→k0))) Tryz.func34 (by kernel_rfl)
 (fun g0=>⟨fun h1=>have h1:s.g=0:=(by simpa using h1)
⟨fun h2=>have h2:s.c=0:=(by simpa using h2)
(by rw [show segB s=true from decide_eq_true (by omega)]),
 fun h2=>have h2:¬ s.c=0:=(by simpa using h2)
⟨by simp only [dq];omega,(by rw [show segB s=false from decide_eq_false (by omega)])⟩⟩,
 fun h1=>have h1:¬ s.g=0:=(by simpa using h1)
⟨fun h3=>have h3:¬ s.g < 1:=(by simpa using h3)
⟨fun h4=>have h4:¬ s.c < 1:=(by simpa using h4)
⟨fun h5=>have h5:¬ 8 < s.c:=(by simpa using h5)
⟨wrap_is rfl (by omega) (by omega),⟨wrap_is rfl (by omega) (by omega),⟨fun h6=>have h6:s.g=((s.u+1) - s.c):=(by simpa using h6)
(by rw [show segB s=true from decide_eq_true (by omega)]),
 fun h6=>have h6:¬ s.g=((s.u+1) - s.c):=(by simpa using h6)
(by rw [show segB s=false from decide_eq_false (by omega)])⟩⟩⟩,
 fun h5=>have h5:8 < s.c:=(by simpa using h5)
(by rw [show segB s=false from decide_eq_false (by omega)])⟩,
 fun h4=>have h4:s.c < 1:=(by simpa using h4)
(by rw [show segB s=false from decide_eq_false (by omega)])⟩,
 fun h3=>have h3:s.g < 1:=(by simpa using h3)
(by rw [show segB s=false from decide_eq_false (by omega)])⟩⟩)
theorem v_right (v:Jv) (s:Wl)  (w:World) (h:InJ w (Lt w.heap.size) v s):Calls Tryz.prog 13 #[.agg (jc v s)] w fun e w'=>e = .returned (.bool (right s))∧Below w.heap.size w w' :=
 calls_by (fn:=Tryz.f13) (r:=.bool (right s)) (t:=.s (.k (.s (.k (.s (.k (.s (.k (.s (.k (.s (.k (.cs (waitsL s) (.k (.cs (segB s) .z .z)) (.k .z))) (.k (.k .z)))) (.k (.k (.k .z))))) (.k (.k (.k (.k .z)))))) (.k (.k (.k (.k (.k .z))))))) (.k (.k (.k (.k (.k (.k .z)))))))) (.k (.k (.k (.k (.k (.k (.k .z)))))))) (X :=
 let k0:=(.bool false:Value) = .bool (right s);let k1:=decide (s.n≤1000000001);let k2:=decide (s.e≤1000000); ∀ g0:Nat,((decide (s.e ≥ 1))=true→(k2=true→((decide (s.n ≥ 1))=true→(k1=true→((decide (s.u ≥ 0))=true→((decide (s.u < s.n))=true→Gives Tryz.prog w [] 33 #[.agg (jc v s)] (.bool (waitsL s))∧((waitsL s)=true→Gives Tryz.prog w [] 34 #[.agg (jc v s)] (.bool (segB s))∧((segB s)=true→((.bool true:Value) = .bool (right s)))∧((segB s)=false→k0))∧((waitsL s)=false→k0))∧((decide (s.u < s.n))=false→k0))∧((decide (s.u ≥ 0))=false→k0))∧(k1=false→k0))∧((decide (s.n ≥ 1))=false→k0))∧(k2=false→k0))∧((decide (s.e ≥ 1))=false→k0)) Tryz.func13 (by kernel_rfl)
 (fun g0=>⟨fun h1=>have h1:¬ s.e < 1:=(by simpa using h1)
⟨fun h2=>have h2:¬ 1000000 < s.e:=(by simpa using h2)
⟨fun h3=>have h3:¬ s.n < 1:=(by simpa using h3)
⟨fun h4=>have h4:¬ 1000000001 < s.n:=(by simpa using h4)
⟨fun h5=>have h5:¬ s.u < 0:=(by simpa using h5)
⟨fun h6=>have h6:s.u < s.n:=(by simpa using h6)
⟨(fun w1 hw _=>v_waits v s w1 ((h.below hw).more (fun _ h=>Nat.lt_of_lt_of_le h hw.size)) (by omega)),fun h7=>⟨(fun w1 hw _=>v_atseg v s w1 (by omega)),fun h8=>(by rw [right_yes (by omega) h7 h8]),
 fun h8=>(by rw [right_no (.inr (.inr h8))])⟩,
 fun h7=>(by rw [right_no (.inr (.inl h7))])⟩,
 fun h6=>have h6:¬ s.u < s.n:=(by simpa using h6)
(by rw [right_no (.inl (by omega))])⟩,
 fun h5=>have h5:s.u < 0:=(by simpa using h5)
(by rw [right_no (.inl (by omega))])⟩,
 fun h4=>have h4:1000000001 < s.n:=(by simpa using h4)
(by rw [right_no (.inl (by omega))])⟩,
 fun h3=>have h3:s.n < 1:=(by simpa using h3)
(by rw [right_no (.inl (by omega))])⟩,
 fun h2=>have h2:1000000 < s.e:=(by simpa using h2)
(by rw [right_no (.inl (by omega))])⟩,
 fun h1=>have h1:s.e < 1:=(by simpa using h1)
(by rw [right_no (.inl (by omega))])⟩)
end Go.Proofs.YtalhdalinpdanaaGreatDoor.wal
end
section
namespace Go.Proofs.YtalhdalinpdanaaGreatDoor.wal
open Go.RowKit Go.Proofs.YtalhdalinpdanaaGreatDoor Go.Proofs.YtalhdalinpdanaaGreatDoor.frame Go.Proofs.YtalhdalinpdanaaGreatDoor.disk
set_option maxRecDepth 20000
def fitsL (s:Wl) (t:DiskD):Bool:=right s && rightB t && (!(segs t).any (fun x:Int=>decide (s.u < x)) && (decide (s.g=0) || decide (((heldV t s.g).length:Int)=s.c * 72)))
theorem none_nil {α:Type} {R:Rd α} {size:Nat} {w:World} {S:Nat→Prop} {A:Option Addr} {L:List α} (h:Elems R size w S A L) (hA:A.isNone=true):L=[]:=by
 cases L with
 |nil=>rfl
 |cons x L =>
  obtain ⟨b,off,e,_⟩:=h (by simp)
  subst e;cases hA
theorem right_facts {s:Wl} (h:right s=true):1≤s.e∧s.e≤1000000∧1≤s.n∧s.n≤1000000001∧0≤s.u∧s.u < s.n∧s.ws.length≤32∧(s.ws.length:Int)=s.n - 1 - s.u∧((s.g=0∧s.c=0)∨(1≤s.g∧1≤s.c∧s.c≤8∧s.g=s.u+1 - s.c)):=by
 rw [right_split] at h
 unfold waitsL segB at h
 simp only [Bool.and_eq_true,decide_eq_true_eq] at h
 omega
section
variable {w0:World} {D:List Fact} {v:Jv} {s:Wl} {u:Dv} {t:DiskD}
abbrev ErrVar (w : World) : Prop := ∃ tp p, w.var? Tryz.prog "strconv.ErrSyntax" = some #[.iface tp p]
theorem ev_later {w w' : World} (h:ErrVar w) (hb:Below w.heap.size w w'):ErrVar w':=by
 obtain ⟨tp,p,hv⟩:=h
 exact ⟨tp,p,var_later hv hb⟩
theorem InD.later {w w' : World} (h:InD w (Lt w.heap.size) u t) (hb:Below w.heap.size w w'):InD w' (Lt w'.heap.size) u t:=(h.below hb).more (fun _ h=>Nat.lt_of_lt_of_le h hb.size)
theorem InJ.later {w w' : World} (h:InJ w (Lt w.heap.size) v s) (hb:Below w.heap.size w w'):InJ w' (Lt w'.heap.size) v s:=(h.below hb).more (fun _ h=>Nat.lt_of_lt_of_le h hb.size)
theorem g_segs (hd : InD w0 (Lt w0.heap.size) u t) (hs : shortB t.files = true) (ht : Lib.TabIs Tryz.prog w0 "internal/strconv.uint64pow10" .u64 Lib.pow10Tab) (he : ErrVar w0) : GivesM Tryz.prog w0 D 21 #[.agg (dc u t)] (Option Addr × Nat) (fun x => .slice x.1 (segs t).length x.2) (fun x => [ownF (rdInt .i64) 1 2 x.1 (segs t).length x.2 (segs t)]) :=
 fun w hw _=>v_segments u t w (hd.later hw) hs (var_later ht hw) (ev_later he hw)
theorem segs_len (hs:shortB t.files=true):(segs t).length≤70:=by
 have h:=(short_iff.1 hs).1
 unfold segs
 split
 ·have:=List.length_filter_le (fun n:Int=>decide (0 < n)) (t.files.map fun f=>numOf f.name)
  simp only [List.length_map] at this
  omega
 ·simp
theorem g_anyabove {g j:Nat} {A:Option Addr} {c:Nat} {T:TypeId} (hd:InD w0 (Lt w0.heap.size) u t) (hs:shortB t.files=true) (hj:D[j]?=some (ownF (rdInt .i64) 1 2 A (segs t).length c (segs t))):Gives Tryz.prog w0 (D++[cellsF g (jc v s) T]) 65 #[.slice A (segs t).length c,.func (.func 64) #[] #[.pointer (some ⟨g,0,none⟩)]] (.bool ((segs t).any (fun x:Int=>decide (s.u < x)))):=fun w hw ha=>by
 have hj2:(D++[cellsF g (jc v s) T])[j]?=some (ownF (rdInt .i64) 1 2 A (segs t).length c (segs t)):=by
  rw [List.getElem?_append_left (List.getElem?_eq_some_iff.1 hj).1];exact hj
 exact v_anyabove A c (segs t) g v s w ((row_at hj2 w ha).reads (keeps_int _) (by decide)) (by have:=segs_len hs;omega) (reads_block (lent_block ha))
theorem g_heldn {g : Int} (hd : InD w0 (Lt w0.heap.size) u t) (hs : shortB t.files = true) (hg : inI g) (ht : Lib.TabIs Tryz.prog w0 "internal/strconv.uint64pow10" .u64 Lib.pow10Tab) : GivesM Tryz.prog w0 D 66 #[.agg (dc u t), .int .i64 g] (Option Addr × Nat) (fun x => .slice x.1 (heldV t g).length x.2) (fun _ => []) := fun w hw _ =>
 (v_held u t g (Lt w.heap.size) w (hd.later hw) (fun _ h=>h) hs hg (var_later ht hw)).mono (by
 rintro e w' ⟨x,rfl,hb,_⟩
 exact ⟨x,rfl,hb,news_nil⟩)
end
theorem v_fits (v : Jv) (s : Wl) (u : Dv) (t : DiskD)  (w : World) (h : InJ w (Lt w.heap.size) v s) (hd : InD w (Lt w.heap.size) u t) (hs : shortB t.files = true) (ht : Lib.TabIs Tryz.prog w "internal/strconv.uint64pow10" .u64 Lib.pow10Tab) (he : ∃ tp p, w.var? Tryz.prog "strconv.ErrSyntax" = some #[.iface tp p]) : Calls Tryz.prog 36 #[.agg (jc v s), .agg (dc u t)] w fun e w' => e = .returned (.bool (fitsL s t)) ∧ Below w.heap.size w w' :=
 calls_by (fn:=Tryz.f36) (r:=.bool (fitsL s t)) (t:=.cs (right s) (.k (.cs (rightB t) (.o [] (.cm (Option Addr × Nat) (fun x=>.slice x.1 ((segs t).length) x.2) (fun x=>[ownF (rdInt .i64) 1 2 x.1 ((segs t).length) x.2 (segs t)]) (fun x3=>.cB 0 (.bool ((segs t).any (fun x:Int=>decide (s.u < x)))) (.s (.s (.k .z) (.k (.e (.int .i64 (s.c * 72)) (.cm (Option Addr × Nat) (fun x=>.slice x.1 ((heldV t s.g).length) x.2) (fun x=>[]) (fun x6=>.s .z .z))))) .z)))) .z)) (.k .z)) (X :=
 let k0:=(.bool false:Value) = .bool (fitsL s t);let k1:=(segs t).length;let k2:=decide (((heldV t s.g).length:Int)=(s.c * 72));let k3:=(.bool true:Value) = .bool (fitsL s t); ∀ g0:Nat,∀ g1:Nat,Gives Tryz.prog w [] 13 #[.agg (jc v s)] (.bool (right s))∧((right s)=true→Gives Tryz.prog w [] 44 #[.agg (dc u t)] (.bool (rightB t))∧((rightB t)=true→GivesM Tryz.prog w [] 21 #[.agg (dc u t)] (Option Addr × Nat) (fun x=>.slice x.1 k1 x.2) (fun x=>[ownF (rdInt .i64) 1 2 x.1 k1 x.2 (segs t)])∧∀ x3:Option Addr × Nat,let k4:List Fact:=[ownF (rdInt .i64) 1 2 x3.1 k1 x3.2 (segs t)];Gives Tryz.prog w (k4++[cellsF g0 (jc v s) 24]) 65 #[.slice x3.1 k1 x3.2,.func (.func 64) #[] #[.pointer (some ⟨g0,0,none⟩)]] (.bool ((segs t).any (fun x:Int=>decide (s.u < x))))∧((!((segs t).any (fun x:Int=>decide (s.u < x))))=true→((decide (s.g=0))=true→k3)∧((decide (s.g=0))=false→(.int .i64 (IntKind.i64.wrap (s.c * 72)):Value) = .int .i64 (s.c * 72)∧GivesM Tryz.prog w k4 66 #[.agg (dc u t),.int .i64 s.g] (Option Addr × Nat) (fun x=>.slice x.1 ((heldV t s.g).length) x.2) (fun x=>[])∧∀ x6:Option Addr × Nat,(k2=true→k3)∧(k2=false→k0)))∧((!((segs t).any (fun x:Int=>decide (s.u < x))))=false→k0))∧((rightB t)=false→k0))∧((right s)=false→k0)) Tryz.func36 (by kernel_rfl)
 (fun g0=>fun g1=>⟨(fun w1 hw _=>v_right v s w1 ((h.below hw).more (fun _ h=>Nat.lt_of_lt_of_le h hw.size))),fun h1=>⟨(g_dright hd hs),fun h2=>⟨(g_segs hd hs ht he),fun x3=>⟨(g_anyabove hd hs (j:=0) rfl),⟨fun h4=>⟨fun h5=>have h5:s.g=0:=(by simpa using h5)
(by rw [fitsL,h1,h2,h4,decide_eq_true h5];rfl),
 fun h5=>have h5:¬ s.g=0:=(by simpa using h5)
⟨wrap_is rfl (by have:=right_facts h1;omega) (by have:=right_facts h1;omega),⟨(g_heldn hd hs h.g ht),fun x6=>⟨fun h7=>have h7:((heldV t s.g).length:Int)=(s.c * 72):=(by simpa using h7)
(by rw [fitsL,h1,h2,h4,decide_eq_false h5,decide_eq_true h7];rfl),
 fun h7=>have h7:¬ ((heldV t s.g).length:Int)=(s.c * 72):=(by simpa using h7)
(by rw [fitsL,h1,h2,h4,decide_eq_false h5,decide_eq_false h7];rfl)⟩⟩⟩⟩,
 fun h4=>(by rw [fitsL,h1,h2,h4];rfl)⟩⟩⟩,
 fun h2=>(by rw [fitsL,h1,h2];rfl)⟩,
 fun h1=>(by rw [fitsL,h1];rfl)⟩)
theorem v_clone (A:Option Addr) (c:Nat) (L:List FrameD)  (w:World) (hx:Elems rdFrame 9 w (Lt w.heap.size) A L) (hn:L.length≤1000000):Calls Tryz.prog 32 #[.slice A L.length c] w fun e w' => ∃ x:Option Addr × Nat,e = .returned (.slice x.1 L.length x.2)∧Below w.heap.size w w'∧News (fun _=>False) w.heap.size ([ownF rdFrame 9 72 x.1 L.length x.2 L]) w' :=
 calls_mem (fn:=Tryz.f32) (r:=fun (x:Option Addr × Nat)=>.slice x.1 L.length x.2) (fs:=fun (x:Option Addr × Nat)=>[ownF rdFrame 9 72 x.1 L.length x.2 L]) (t:=.xs A.isNone .z (.w (Nat) none (fun x=>.slice (some ⟨x,0,none⟩) 0 0) (fun x=>[ownF rdFrame 9 72 (some ⟨x,0,none⟩) 0 0 ([])]) (fun x2=>.w (Option Addr × Nat) (some 0) (fun x=>.slice x.1 L.length x.2) (fun x=>[ownF rdFrame 9 72 x.1 L.length x.2 L]) (fun x3=>.z)))) (X :=
 let k0:Value:=.slice none 0 0;Yields0 Tryz.prog w [] (do eqGuard BinOp.eql 22 (.tmp 3) (.const k0) (.slice A L.length c) k0;Go.binOp BinOp.eql 22 (.slice A L.length c) k0) (.bool A.isNone)∧(A.isNone=true→∃ x:Option Addr × Nat,(.slice none 0 0:Value) = .slice x.1 L.length x.2∧Turns w [] ([ownF rdFrame 9 72 x.1 L.length x.2 L]))∧(A.isNone=false→StepM Tryz.prog w [] (Instr.buildSlice 22 0 #[]) (fun _=>False) (Nat) (fun x=>.slice (some ⟨x,0,none⟩) 0 0) (fun x=>[ownF rdFrame 9 72 (some ⟨x,0,none⟩) 0 0 ([])])∧∀ x2:Nat,let k1:Option Addr:=some ⟨x2,0,none⟩;StepM Tryz.prog w [ownF rdFrame 9 72 k1 0 0 ([])] (Builtin.append_ #[22,22] 22 #[.slice k1 0 0,.slice A L.length c]) ((ownF rdFrame 9 72 k1 0 0 ([])).S) (Option Addr × Nat) (fun x=>.slice x.1 L.length x.2) (fun x=>[ownF rdFrame 9 72 x.1 L.length x.2 L])∧∀ x3:Option Addr × Nat,∃ x:Option Addr × Nat,(.slice x3.1 L.length x3.2:Value) = .slice x.1 L.length x.2∧Turns w [ownF rdFrame 9 72 x3.1 L.length x3.2 L] ([ownF rdFrame 9 72 x.1 L.length x.2 L]))) Tryz.func32 (by kernel_rfl)
 (⟨(fun _ _ _=>by cases A<;>kernel_rfl),fun h1=>(by obtain rfl:L=[]:=none_nil hx h1;exact ⟨(none,0),rfl,turns_none keeps_frame⟩),
 fun h1=>⟨(build_none keeps_frame (by kernel_rfl) (fun g=>by kernel_rfl)),fun x2=>⟨(step_to2 (Nat.zero_add _) (List.nil_append _) (append_core keeps_frame leaf_frame (by decide) Tryz.underlying22 info_frame rfl (fun _ h=>h) (row_at (j:=0) rfl) (fun w hw _=>⟨_,low_keep keeps_frame (Nat.le_refl _) hx hw⟩) rfl (by unfold maxLen;omega) (by omega) (fun h=>h))),fun x3=>⟨(x3.1,x3.2),rfl,turns_sub (by exact .cons_cons _ (List.nil_sublist _))⟩⟩⟩⟩)
end Go.Proofs.YtalhdalinpdanaaGreatDoor.wal
end
