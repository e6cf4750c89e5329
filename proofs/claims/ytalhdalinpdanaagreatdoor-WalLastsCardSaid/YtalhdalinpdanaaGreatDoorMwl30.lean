/-
  WalI2
-/
import Derived.Test.YtalhdalinpdanaaGreatDoorMwl28
import Derived.Test.YtalhdalinpdanaaGreatDoorMwl29
set_option linter.unusedVariables false
set_option linter.unusedSimpArgs false
namespace Go.Proofs.YtalhdalinpdanaaGreatDoor.wal
open Go.RowKit Go.Proofs.YtalhdalinpdanaaGreatDoor Go.Proofs.YtalhdalinpdanaaGreatDoor.frame Go.Proofs.YtalhdalinpdanaaGreatDoor.disk
set_option maxRecDepth 20000
def idxI {α:Type} (p:α→Bool) (l:List α):Int:=if l.findIdx p < l.length then (l.findIdx p:Int) else -1
theorem lt_step {p:Nat→Bool} {k:Nat} {b:Bool} (h:∀ j,j < k→p j=b) (h2:p k=b):∀ j,j < k+1→p j=b:=fun j hj=>by
 rcases Nat.lt_or_ge j k with h3 | h3
 ·exact h j h3
 ·rw [show j=k by omega];exact h2
theorem idx_none {α:Type} {p:α→Bool} {l:List α} {z:α} (h:∀ j,j < l.length→p (l.getD j z)=false):idxI p l = -1:=by
 unfold idxI
 rw [if_neg]
 intro hlt
 have h1:=List.findIdx_getElem (w:=hlt)
 have h2:=h _ hlt
 rw [List.getD_eq_getElem?_getD,List.getElem?_eq_getElem hlt,Option.getD_some,h1] at h2
 cases h2
theorem idx_at {α:Type} {p:α→Bool} {l:List α} {z:α} {k:Nat} (hk:k < l.length) (h:∀ j,j < k→p (l.getD j z)=false) (hp:p (l.getD k z)=true):idxI p l=(k:Int):=by
 have h1:l.findIdx p=k:=by
  rw [List.findIdx_eq hk]
  refine ⟨by rw [List.getD_eq_getElem?_getD,List.getElem?_eq_getElem hk,Option.getD_some] at hp;exact hp,fun j hj=>?_⟩
  have:=h j hj
  rw [List.getD_eq_getElem?_getD,List.getElem?_eq_getElem (by omega),Option.getD_some] at this
  exact this
 unfold idxI
 rw [h1,if_pos hk]
theorem reads_later {w w' : World} {g o:Nat} {cs:Array Value} (h:Reads0 w [] g o cs) (hb:Below w.heap.size w w'):Reads0 w' [] g o cs:=fun w2 hw2 _=>h w2 (hb.trans (hw2.mono hb.size)) trivial
theorem v_held1 (x:RawF) (g:Nat) (nm:ByteArray)  (w:World) (hb:Reads0 w [] g 0 #[.string nm]):Calls Tryz.prog 105 #[.agg (rfc x),.pointer (some ⟨g,0,none⟩)] w fun e w'=>e = .returned (.bool (decide (x.f.name=nm)))∧Below w.heap.size w w' :=
 calls_by (fn:=Tryz.f105) (r:=.bool (decide (x.f.name=nm))) (t:=.x (.string nm) (.xs (decide (x.f.name=nm)) .z .z)) (X :=
 let k0:=decide (x.f.name=nm); ∀ g0:Nat,Yields0 Tryz.prog w [] (Instr.loadAt 9 (.pointer (some ⟨g,0,none⟩))) (.string nm)∧Yields0 Tryz.prog w [] (do eqGuard BinOp.eql 9 (.tmp 5) (.tmp 6) (.string x.f.name) (.string nm);Go.binOp BinOp.eql 9 (.string x.f.name) (.string nm)) (.bool k0)∧(k0=true→((.bool true:Value) = .bool k0))∧(k0=false→((.bool false:Value) = .bool k0))) Tryz.func105 (by kernel_rfl)
 (fun g0=>⟨(low_load hb Tryz.underlying9 rfl rfl),⟨(str_eql _ _),fun h1=>(by rw [h1]),
 fun h1=>(by rw [h1])⟩⟩)
theorem v_ixfile (A:Option Addr) (c:Nat) (rs:List RawF) (g:Nat) (nm:ByteArray)  (w:World) (hx:Elems rdRaw 3 w (Lt w.heap.size) A rs) (hm:rs.length≤1000000) (hb:Reads0 w [] g 0 #[.string nm]):Calls Tryz.prog 104 #[.slice A rs.length c,.func (.func 105) #[] #[.pointer (some ⟨g,0,none⟩)]] w fun e w'=>e = .returned (.int .i64 (idxI (fun x:RawF=>decide (x.f.name=nm)) rs))∧Below w.heap.size w w' :=
 calls_by (fn:=Tryz.f104) (r:=.int .i64 (idxI (fun x:RawF=>decide (x.f.name=nm)) rs)) (t:=.l (Nat) (fun x=>[(0,.slice A rs.length c,none),(1,.func (.func 105) #[] #[.pointer (some ⟨g,0,none⟩)],none),(7,.int .i64 (rs.length:Int),none),(8,.int .i64 (x:Int),none)]) (fun x=>[]) [] [] (fun x=>[]) (fun x=>x≤rs.length∧∀ j,j < x→decide ((rs.getD j rz).f.name=nm)=false) (fun x=>rs.length - x) (0:Nat) (fun y1=>.s (.p (blkA A) (offA A+y1 * 3) (rfc (rs.getD y1 rz)) (.cs (decide ((rs.getD y1 rz).f.name=nm)) .z (.e (.int .i64 ((y1+1:Nat):Int)) .z))) .z)) (X :=
 let k0:Array Value:=#[.pointer (some ⟨g,0,none⟩)];let k1:=(rs.length:Int);let k2:=([]:List (Option Blk));Brings w [] []∧((0:Nat)≤rs.length∧∀ j,j < (0:Nat)→decide ((rs.getD j rz).f.name=nm)=false)∧(([.slice A rs.length c,.func (.func 105) #[] k0,.int .i64 k1,.int .i64 0]:List Value)=[.slice A rs.length c,.func (.func 105) #[] k0,.int .i64 k1,.int .i64 ((0:Nat):Int)]∧k2=[]∧Turns w [] [])∧true=true∧∀ (y1:Nat),let k4:=rs.getD y1 rz;let k3:=decide (k4.f.name=nm);let k5:=decide ((y1:Int) < k1);(y1≤rs.length∧∀ j,j < y1→decide ((rs.getD j rz).f.name=nm)=false)→∀ τ3:Nat→Value,(k5=true→Yields0 Tryz.prog w [] (Instr.indexAt 25 (.slice A rs.length c) (.int .i64 (y1:Int))) (.pointer (some ⟨blkA A,offA A+y1 * 3,none⟩))∧Reads0 w [] (blkA A) (offA A+y1 * 3) (rfc k4)∧Gives Tryz.prog w [] 105 #[.agg (rfc k4),.pointer (some ⟨g,0,none⟩)] (.bool k3)∧(k3=true→((.int .i64 (y1:Int):Value) = .int .i64 (idxI (fun x:RawF=>decide (x.f.name=nm)) rs)))∧(k3=false→(.int .i64 (IntKind.i64.wrap ((y1:Int)+1)):Value) = .int .i64 ((y1+1:Nat):Int)∧∃ x' : Nat,(x'≤rs.length∧∀ j,j < x'→decide ((rs.getD j rz).f.name=nm)=false)∧(rs.length - x' < rs.length - y1)∧(([.slice A rs.length c,.func (.func 105) #[] k0,.int .i64 k1,.int .i64 ((y1+1:Nat):Int)]:List Value)=[.slice A rs.length c,.func (.func 105) #[] k0,.int .i64 k1,.int .i64 (x' : Int)]∧k2=[]∧Turns w [] [])∧true=true))∧(k5=false→((.int .i64 (-1):Value) = .int .i64 (idxI (fun x:RawF=>decide (x.f.name=nm)) rs)))) Tryz.func104 (by kernel_rfl)
 (⟨(fun w _ _=>news_nil),⟨Nat.zero_le _,fun j hj=>absurd hj (Nat.not_lt_zero j)⟩,⟨rfl,rfl,(turns_sub (List.nil_sublist _))⟩,rfl,fun y1 I2 τ3=>⟨fun h4=>have h4:(y1:Int) < (rs.length:Int):=(by simpa using h4)
⟨(low_index Tryz.underlying25 info_file raw_cells (Nat.le_refl _) hx rfl (by omega)),(low_reads raw_cells (Nat.le_refl _) hx (at_getD (by omega))),⟨(fun w hw _=>v_held1 (rs.getD y1 rz) g nm w (reads_later hb hw)),fun h5=>(by rw [idx_at (p:=(fun x:RawF=>decide (x.f.name=nm))) (z:=rz) (by omega) I2.2 h5]),
 fun h5=>⟨wrap_is (by omega) (by omega) (by omega),⟨((y1+1):Nat),⟨by omega,lt_step I2.2 h5⟩,(by omega),⟨rfl,rfl,(turns_sub (List.nil_sublist _))⟩,rfl⟩⟩⟩⟩,
 fun h4=>have h4:¬ (y1:Int) < (rs.length:Int):=(by simpa using h4)
(by rw [idx_none (p:=(fun x:RawF=>decide (x.f.name=nm))) (z:=rz) (fun j hj=>I2.2 j (by omega))])⟩⟩)
abbrev hP (g:Int):RawF→Bool:=fun x=>decide (x.f.name=nameV g)
def heldV (s:DiskD) (g:Int):List Nat:=match disk.look (nameV g) s.files with
 |some f=>f.data
 |none=>[]
theorem idx_nat {α:Type} {p:α→Bool} {l:List α} (h:¬ idxI p l < 0):idxI p l=(l.findIdx p:Int)∧l.findIdx p < l.length:=by
 unfold idxI at h ⊢
 split
 ·rename_i hl;exact ⟨rfl,hl⟩
 ·rename_i hl;rw [if_neg hl] at h;omega
theorem same_dec (a b:ByteArray):sameName a b=decide (a=b):=by unfold sameName;exact list_eq
theorem look_raw {w:World} {S:Nat→Prop} {v:Dv} {s:DiskD} (h:InD w S v s) (g:Int):disk.look (nameV g) s.files=(v.rs.find? (hP g)).map (·.f):=by
 unfold disk.look
 rw [← h.m,List.find?_map]
 congr 2
 funext x
 exact same_dec _ _
section
variable {w0:World} {D:List Fact} {S:Nat→Prop} {v:Dv} {s:DiskD} {g:Int}
theorem q_held0 (h:InD w0 S v s) (hn:idxI (hP g) v.rs < 0):∃ x:Option Addr × Nat,(.slice none 0 0:Value) = .slice x.1 (heldV s g).length x.2∧Concl w0 D (fun w'=>BysIn w' S x.1 (heldV s g)∧(heldV s g).length≤x.2∧x.2≤maxLen):=by
 have e:heldV s g=[]:=by
  unfold heldV
  rw [look_raw h]
  have:v.rs.find? (hP g)=none:=by
   rw [List.find?_eq_none]
   intro x hx hp
   have:=List.findIdx_lt_length_of_exists (p:=hP g) ⟨x,hx,hp⟩
   unfold idxI at hn
   rw [if_pos this] at hn
   omega
  rw [this];rfl
 rw [e]
 exact ⟨(none,0),rfl,fun w' _ _ _=>⟨⟨by simp [toI],fun h=>absurd h (by simp [toI])⟩,Nat.le_refl _,by unfold maxLen;simp⟩⟩
theorem held_is (h:InD w0 S v s) (hn:¬ idxI (hP g) v.rs < 0):heldV s g=(v.rs.getD (v.rs.findIdx (hP g)) rz).f.data:=by
 have hl:=(idx_nat hn).2
 unfold heldV
 rw [look_raw h,List.getD_eq_getElem?_getD,List.getElem?_eq_getElem hl,List.find?_eq_getElem?_findIdx,List.getElem?_eq_getElem hl]
 rfl
theorem q_held (h:InD w0 S v s) (hS:∀ k,S k→k < w0.heap.size) (hn:¬ idxI (hP g) v.rs < 0):∃ x:Option Addr × Nat,(.slice (v.rs.getD (v.rs.findIdx (hP g)) rz).A (v.rs.getD (v.rs.findIdx (hP g)) rz).f.data.length (v.rs.getD (v.rs.findIdx (hP g)) rz).c:Value) = .slice x.1 (heldV s g).length x.2∧Concl w0 D (fun w'=>BysIn w' S x.1 (heldV s g)∧(heldV s g).length≤x.2∧x.2≤maxLen):=by
 rw [held_is h hn]
 refine ⟨((v.rs.getD (v.rs.findIdx (hP g)) rz).A,(v.rs.getD (v.rs.findIdx (hP g)) rz).c),rfl,fun w' hb _ _=>?_⟩
 obtain ⟨b,off,e,hs,hc⟩:=h.f (Nat.lt_of_le_of_lt (Nat.zero_le _) (idx_nat hn).2)
 obtain ⟨cs,h1,h2,h3⟩:=hc _ _ (at_getD (z:=rz) (idx_nat hn).2)
 exact ⟨h3.2.2.1.below hS hb,h3.2.2.2.1,h3.2.2.2.2.1⟩
theorem g_ixfile {g5:Nat} {T:TypeId} (h:InD w0 (Lt w0.heap.size) v s) (hm:s.files.length≤1000000):Gives Tryz.prog w0 (D++[cellsF g5 #[.string (nameV g)] T]) 104 #[.slice v.A s.files.length v.c,.func (.func 105) #[] #[.pointer (some ⟨g5,0,none⟩)]] (.int .i64 (idxI (hP g) v.rs)):=fun w hw ha=>by
 have hb:w.heap[g5]?=some (.cells #[.string (nameV g)] T (0,0)):=All_iff.1 ha (cellsF g5 #[.string (nameV g)] T) (List.mem_append_right _ (List.mem_singleton_self _))
 have hd:=(h.below hw).more (S':=Lt w.heap.size) (fun k hk=>Nat.lt_of_lt_of_le hk hw.size)
 have:=v_ixfile v.A v.c v.rs g5 (nameV g) w hd.f (by rw [hd.len];exact hm) (reads_block hb)
 rw [hd.len] at this
 exact this
theorem g_dright (h:InD w0 (Lt w0.heap.size) v s) (hs:shortB s.files=true):Gives Tryz.prog w0 D 44 #[.agg (dc v s)] (.bool (rightB s)):=fun w hw _ =>
 d_right (fun _ h=>h) ((h.below hw).more (S':=Lt w.heap.size) (fun k hk=>Nat.lt_of_lt_of_le hk hw.size)) hs
theorem g_number {nm : ByteArray} (ht : Lib.TabIs Tryz.prog w0 "internal/strconv.uint64pow10" .u64 Lib.pow10Tab) (he : ∃ tp p, w0.var? Tryz.prog "strconv.ErrSyntax" = some #[.iface tp p]) (hn : named nm = true) : Gives Tryz.prog w0 D 45 #[.string nm] (.int .i64 (numOf nm)) := fun w hw _ => by
 obtain ⟨tp,p,hv⟩:=he
 exact v_number nm w (var_later ht hw) ⟨tp,p,var_later hv hw⟩ (named_parse hn).1 (named_parse hn).2
theorem raw_named (h:InD w0 S v s) (hr:rightB s=true) {j:Nat} (hj:j < v.rs.length):named (v.rs.getD j rz).f.name=true:=by
 have h1:=((right_iff s).1 hr).2.2.2.1
 have h2:(v.rs.getD j rz).f ∈ s.files:=by
  rw [← h.m,List.getD_eq_getElem?_getD,List.getElem?_eq_getElem hj]
  exact List.mem_map_of_mem (List.getElem_mem hj)
 exact ((file_iff _).1 (h1 _ h2)).1
end
theorem numOf_le (s:ByteArray):0≤numOf s∧numOf s≤1000000000:=by
 refine ⟨numOf_nonneg s,?_⟩
 by_cases h:0 < numOf s
 ·exact (numOf_is h).2
 ·omega
theorem numOf_wf (s:ByteArray):(Lit.int .i64 (numOf s)).wf=true:=by
 have:=numOf_le s
 simp [Lit.wf,IntKind.min,IntKind.max,IntKind.signed,IntKind.bits];omega
def segL (rs:List RawF):List Int:=(rs.map fun x=>numOf x.f.name).filter fun n=>decide (0 < n)
theorem segL_len (rs:List RawF):(segL rs).length≤rs.length:=by
 unfold segL
 have:=List.length_filter_le (fun n:Int=>decide (0 < n)) (rs.map fun x=>numOf x.f.name)
 simpa using this
theorem segL_next {rs:List RawF} {k:Nat} (hk:k < rs.length):segL (rs.take (k+1))=segL (rs.take k)++(if 0 < numOf (rs.getD k rz).f.name then [numOf (rs.getD k rz).f.name] else []):=by
 unfold segL
 rw [List.take_add_one,at_getD (z:=rz) hk,List.map_append,List.filter_append]
 congr 1
 simp [List.filter_cons]
theorem segL_no {rs:List RawF} {k:Nat} (hk:k < rs.length) (h:numOf (rs.getD k rz).f.name=0):segL (rs.take (k+1))=segL (rs.take k):=by
 rw [segL_next hk,h,if_neg (by omega),List.append_nil]
theorem segL_yes {rs:List RawF} {k:Nat} (hk:k < rs.length) (h:¬ numOf (rs.getD k rz).f.name=0):segL (rs.take k)++[numOf (rs.getD k rz).f.name]=segL (rs.take (k+1)):=by
 rw [segL_next hk,if_pos (by have:=numOf_nonneg (rs.getD k rz).f.name;omega)]
theorem segs_raw {w:World} {S:Nat→Prop} {v:Dv} {s:DiskD} (h:InD w S v s) (hr:rightB s=true):segs s=segL v.rs:=by
 unfold segs segL
 rw [if_pos hr,← h.m,List.map_map]
 rfl
theorem seg_none {w:World} {D:List Fact} {s:DiskD} (hr:rightB s=false):∃ x:Option Addr × Nat,(.slice none 0 0:Value) = .slice x.1 (segs s).length x.2∧Turns w D [ownF (rdInt .i64) 1 2 x.1 (segs s).length x.2 (segs s)]:=by
 have e:segs s=[]:=by unfold segs;rw [if_neg (by rw [hr];simp)]
 rw [e]
 exact ⟨(none,0),rfl,turns_none (keeps_int _)⟩
theorem seg_yes {w w1:World} {S:Nat→Prop} {A:Option Addr} {c k:Nat} {v:Dv} {s:DiskD} (h:InD w1 S v s) (hr:rightB s=true) (hk:v.rs.length≤k):∃ x:Option Addr × Nat,(.slice A (segL (v.rs.take k)).length c:Value) = .slice x.1 (segs s).length x.2∧Turns w [ownF (rdInt .i64) 1 2 A (segL (v.rs.take k)).length c (segL (v.rs.take k))] [ownF (rdInt .i64) 1 2 x.1 (segs s).length x.2 (segs s)]:=by
 rw [segs_raw h hr,List.take_of_length_le hk]
 exact ⟨(A,c),rfl,turns_sub (List.Sublist.refl _)⟩
theorem v_held (v : Dv) (s : DiskD) (g : Int) (S : Nat → Prop)  (w : World) (h0 : InD w S v s) (hS : ∀ k, S k → k < w.heap.size) (hs : shortB s.files = true) (hg : inI g) (ht : Lib.TabIs Tryz.prog w "internal/strconv.uint64pow10" .u64 Lib.pow10Tab) : Calls Tryz.prog 66 #[.agg (dc v s), .int .i64 g] w fun e w' => ∃ x : Option Addr × Nat, e = .returned (.slice x.1 (heldV s g).length x.2) ∧ Below w.heap.size w w' ∧ (fun w' => BysIn w' S x.1 (heldV s g) ∧ (heldV s g).length ≤ x.2 ∧ x.2 ≤ maxLen) w' :=
 have h:=h0.all hS
 calls_q (fn:=Tryz.f66) (r:=fun (x:Option Addr × Nat)=>.slice x.1 (heldV s g).length x.2) (Q:=fun (x:Option Addr × Nat)=>fun w'=>BysIn w' S x.1 (heldV s g)∧(heldV s g).length≤x.2∧x.2≤maxLen) (t:=.c (.string (nameV g)) (.cB 1 (.int .i64 (idxI (hP g) v.rs)) (.s .z (.p (blkA v.A) (offA v.A+(v.rs.findIdx (hP g)) * 3) (rfc (v.rs.getD (v.rs.findIdx (hP g)) rz)) .z)))) (X :=
 let k2:=v.rs.findIdx (hP g);let k0:=v.rs.getD k2 rz;let k1:=idxI (hP g) v.rs; ∀ g0:Nat,Gives Tryz.prog w [] 24 #[.int .i64 g] (.string (nameV g))∧∀ g1:Nat,Gives Tryz.prog w ([]++[cellsF g1 #[.string (nameV g)] 9]) 104 #[.slice v.A s.files.length v.c,.func (.func 105) #[] #[.pointer (some ⟨g1,0,none⟩)]] (.int .i64 k1)∧((decide (k1 < 0))=true→∃ x:Option Addr × Nat,(.slice none 0 0:Value) = .slice x.1 (heldV s g).length x.2∧Concl w [] (fun w'=>BysIn w' S x.1 (heldV s g)∧(heldV s g).length≤x.2∧x.2≤maxLen))∧((decide (k1 < 0))=false→Yields0 Tryz.prog w [] (Instr.indexAt 25 (.slice v.A s.files.length v.c) (.int .i64 k1)) (.pointer (some ⟨blkA v.A,offA v.A+k2 * 3,none⟩))∧Reads0 w [] (blkA v.A) (offA v.A+k2 * 3) (rfc k0)∧∃ x:Option Addr × Nat,(.slice (k0.A) (k0.f.data.length) (k0.c):Value) = .slice x.1 (heldV s g).length x.2∧Concl w [] (fun w'=>BysIn w' S x.1 (heldV s g)∧(heldV s g).length≤x.2∧x.2≤maxLen))) Tryz.func66 (by kernel_rfl)
 (fun g0=>⟨(n_name hg ht),fun g1=>⟨(g_ixfile h (by have:=(short_iff.1 hs).1;omega)),⟨fun h1=>have h1:(idxI (hP g) v.rs) < 0:=(by simpa using h1)
(q_held0 h0 h1),
 fun h1=>have h1:¬ (idxI (hP g) v.rs) < 0:=(by simpa using h1)
⟨(index_at (idx_nat h1).1 (low_index Tryz.underlying25 info_file raw_cells (Nat.le_refl _) h.f h.len (by rw [← h.len];exact (idx_nat h1).2))),(low_reads raw_cells (Nat.le_refl _) h.f (at_getD (by rw [h.len];exact (by rw [← h.len];exact (idx_nat h1).2)))),(q_held h0 hS h1)⟩⟩⟩⟩)
theorem v_segments (v : Dv) (s : DiskD)  (w : World) (h : InD w (Lt w.heap.size) v s) (hs : shortB s.files = true) (ht : Lib.TabIs Tryz.prog w "internal/strconv.uint64pow10" .u64 Lib.pow10Tab) (he : ∃ tp p, w.var? Tryz.prog "strconv.ErrSyntax" = some #[.iface tp p]) : Calls Tryz.prog 21 #[.agg (dc v s)] w fun e w' => ∃ x : Option Addr × Nat, e = .returned (.slice x.1 (segs s).length x.2) ∧ Below w.heap.size w w' ∧ News (fun _ => False) w.heap.size ([ownF (rdInt .i64) 1 2 x.1 (segs s).length x.2 (segs s)]) w' :=
 have hlen:=h.len
 have h70:=(short_iff.1 hs).1
 calls_mem (fn:=Tryz.f21) (r:=fun (x:Option Addr × Nat)=>.slice x.1 (segs s).length x.2) (fs:=fun (x:Option Addr × Nat)=>[ownF (rdInt .i64) 1 2 x.1 (segs s).length x.2 (segs s)]) (t:=let k0:=Option Addr × Nat; .cs (rightB s) (.l (Nat × k0) (fun x=>[(3,.slice x.2.1 ((segL (v.rs.take x.1)).length) x.2.2,none),(11,.slice v.A s.files.length v.c,none),(12,.int .i64 (s.files.length:Int),none),(13,.int .i64 (x.1:Int),none)]) (fun x=>[]) [] [ownF (rdInt .i64) 1 2 none 0 0 ([])] (fun x=>[ownF (rdInt .i64) 1 2 x.2.1 ((segL (v.rs.take x.1)).length) x.2.2 (segL (v.rs.take x.1))]) (fun x=>x.1≤v.rs.length) (fun x=>v.rs.length - x.1) ((0,(none,0)):Nat × k0) (fun y2=>let k1:=segL (v.rs.take (y2.1+1));let k2:=v.rs.getD y2.1 rz;let k3:Value:=.int .i64 ((y2.1+1:Nat):Int); .s (.p (blkA v.A) (offA v.A+y2.1 * 3) (rfc k2) (.c (.int .i64 (numOf k2.f.name)) (.s (.w (Nat) none (fun x=>.slice (some ⟨x,0,none⟩) 1 1) (fun x=>[cellsF x #[.int .i64 (numOf k2.f.name)] 2]) (fun x7=>.w k0 (some 1) (fun x=>.slice x.1 (k1.length) x.2) (fun x=>[ownF (rdInt .i64) 1 2 x.1 (k1.length) x.2 k1]) (fun x8=>.e k3 .z))) (.e k3 .z)))) .z)) .z) (X :=
 let k2:=Option Addr × Nat;let k0:=((0,(none,0)):Nat × k2);let k1:=(s.files.length:Int);let k3:=([]:List (Option Blk));let k4:=segL (v.rs.take k0.1);let k5:List Fact:=[ownF (rdInt .i64) 1 2 none 0 0 ([])]; ∀ g0:Nat,Gives Tryz.prog w [] 44 #[.agg (dc v s)] (.bool (rightB s))∧((rightB s)=true→Brings w [] k5∧(k0.1≤v.rs.length)∧(([.slice none 0 0,.slice v.A s.files.length v.c,.int .i64 k1,.int .i64 0]:List Value)=[.slice (k0.2.1) (k4.length) (k0.2.2),.slice v.A s.files.length v.c,.int .i64 k1,.int .i64 (k0.1:Int)]∧k3=[]∧Turns w k5 [ownF (rdInt .i64) 1 2 (k0.2.1) (k4.length) (k0.2.2) k4])∧true=true∧∀ (y2:Nat × k2),let k8:=segL (v.rs.take y2.1);let k6:List Fact:=[ownF (rdInt .i64) 1 2 y2.2.1 (k8.length) y2.2.2 k8];let k12:=v.rs.getD y2.1 rz;let k7:=numOf k12.f.name;let k9:=segL (v.rs.take (y2.1+1));let k10:=((y2.1+1:Nat):Int);let k11:=(.int .i64 (IntKind.i64.wrap ((y2.1:Int)+1)):Value);let k13:=decide ((y2.1:Int) < k1);(y2.1≤v.rs.length)→∀ τ4:Nat→Value,(k13=true→Yields0 Tryz.prog w k6 (Instr.indexAt 25 (.slice v.A s.files.length v.c) (.int .i64 (y2.1:Int))) (.pointer (some ⟨blkA v.A,offA v.A+y2.1 * 3,none⟩))∧Reads0 w [] (blkA v.A) (offA v.A+y2.1 * 3) (rfc k12)∧∀ g2:Nat,Gives Tryz.prog w k6 45 #[.string (k12.f.name)] (.int .i64 k7)∧((!decide (k7=0))=true→StepM Tryz.prog w k6 (Instr.buildSlice 47 1 #[(0,.int .i64 k7)]) (fun _=>False) (Nat) (fun x=>.slice (some ⟨x,0,none⟩) 1 1) (fun x=>[cellsF x #[.int .i64 k7] 2])∧∀ x7:Nat,StepM Tryz.prog w [cellsF x7 #[.int .i64 k7] 2,ownF (rdInt .i64) 1 2 y2.2.1 (k8.length) y2.2.2 k8] (Builtin.append_ #[47,47] 47 #[.slice y2.2.1 (k8.length) y2.2.2,.slice (some ⟨x7,0,none⟩) 1 1]) ((ownF (rdInt .i64) 1 2 y2.2.1 (k8.length) y2.2.2 k8).S) k2 (fun x=>.slice x.1 (k9.length) x.2) (fun x=>[ownF (rdInt .i64) 1 2 x.1 (k9.length) x.2 k9])∧∀ x8:Option Addr × Nat,k11 = .int .i64 k10∧∃ x' : Nat × k2,(x'.1≤v.rs.length)∧(v.rs.length - x'.1 < v.rs.length - y2.1)∧(([.slice x8.1 (k9.length) x8.2,.slice v.A s.files.length v.c,.int .i64 k1,.int .i64 k10]:List Value)=[.slice x'.2.1 ((segL (v.rs.take x'.1)).length) x'.2.2,.slice v.A s.files.length v.c,.int .i64 k1,.int .i64 (x'.1:Int)]∧k3=[]∧Turns w [ownF (rdInt .i64) 1 2 x8.1 (k9.length) x8.2 k9,cellsF x7 #[.int .i64 k7] 2] [ownF (rdInt .i64) 1 2 x'.2.1 ((segL (v.rs.take x'.1)).length) x'.2.2 (segL (v.rs.take x'.1))])∧true=true)∧((!decide (k7=0))=false→k11 = .int .i64 k10∧∃ x' : Nat × k2,(x'.1≤v.rs.length)∧(v.rs.length - x'.1 < v.rs.length - y2.1)∧(([.slice y2.2.1 (k8.length) y2.2.2,.slice v.A s.files.length v.c,.int .i64 k1,.int .i64 k10]:List Value)=[.slice x'.2.1 ((segL (v.rs.take x'.1)).length) x'.2.2,.slice v.A s.files.length v.c,.int .i64 k1,.int .i64 (x'.1:Int)]∧k3=[]∧Turns w k6 [ownF (rdInt .i64) 1 2 x'.2.1 ((segL (v.rs.take x'.1)).length) x'.2.2 (segL (v.rs.take x'.1))])∧true=true))∧(k13=false→∃ x:Option Addr × Nat,(.slice y2.2.1 (k8.length) y2.2.2:Value) = .slice x.1 (segs s).length x.2∧Turns w k6 ([ownF (rdInt .i64) 1 2 x.1 (segs s).length x.2 (segs s)])))∧((rightB s)=false→∃ x:Option Addr × Nat,(.slice none 0 0:Value) = .slice x.1 (segs s).length x.2∧Turns w [] ([ownF (rdInt .i64) 1 2 x.1 (segs s).length x.2 (segs s)]))) Tryz.func21 (by kernel_rfl)
 (fun g0=>⟨(g_dright h hs),fun h1=>⟨(own_nil (keeps_int _) 1 _),(Nat.zero_le _),⟨rfl,rfl,(turns_sub (sub_one rfl))⟩,rfl,fun y2 I3 τ4=>⟨fun h5=>have h5:(y2.1:Int) < (s.files.length:Int):=(by simpa using h5)
⟨(low_index Tryz.underlying25 info_file raw_cells (Nat.le_refl _) h.f h.len (by omega)),(low_reads raw_cells (Nat.le_refl _) h.f (at_getD (by rw [h.len];exact (by omega)))),fun g2=>⟨(g_number ht he (raw_named h h1 (by omega))),⟨fun h6=>have h6:¬ (numOf (v.rs.getD y2.1 rz).f.name)=0:=(by simpa using h6)
⟨(build_step2 (by kernel_rfl) (fun g=>by kernel_rfl)),fun x7=>⟨(step_to2 (by rw [← (segL_yes (by omega) h6)];first | done | simp) (segL_yes (by omega) h6) (append_core (keeps_int _) (leaf_int _) (by decide) Tryz.underlying47 info_i64 rfl (fun _ h=>h) (row_at (j:=1) rfl) (fun w _ ha=>one_elem (block_at (j:=0) rfl w ha) rfl ⟨rfl,numOf_wf _⟩) rfl (by have:=segL_len (v.rs.take y2.1);have:=List.length_take_le y2.1 v.rs;unfold maxLen;omega) (by have:=segL_len (v.rs.take y2.1);have:=List.length_take_le y2.1 v.rs;omega) (fun h=>h))),fun x8=>⟨wrap_is (by omega) (by omega) (by omega),⟨((y2.1+1,x8):Nat × (Option Addr × Nat)),(by dsimp only;omega),(by dsimp only;omega),⟨rfl,rfl,(turns_sub (.cons_cons _ (List.nil_sublist _)))⟩,rfl⟩⟩⟩⟩,
 fun h6=>have h6:(numOf (v.rs.getD y2.1 rz).f.name)=0:=(by simpa using h6)
⟨wrap_is (by omega) (by omega) (by omega),⟨((y2.1+1,y2.2):Nat × (Option Addr × Nat)),(by dsimp only;omega),(by dsimp only;omega),⟨(by dsimp only;rw [(segL_no (by omega) h6)]),rfl,(turns_sub (by dsimp only;rw [(segL_no (by omega) h6)];exact .cons_cons _ (List.nil_sublist _)))⟩,rfl⟩⟩⟩⟩⟩,
 fun h5=>have h5:¬ (y2.1:Int) < (s.files.length:Int):=(by simpa using h5)
(seg_yes h h1 (by omega:v.rs.length≤y2.1))⟩⟩,
 fun h1=>(seg_none h1)⟩)
end Go.Proofs.YtalhdalinpdanaaGreatDoor.wal
