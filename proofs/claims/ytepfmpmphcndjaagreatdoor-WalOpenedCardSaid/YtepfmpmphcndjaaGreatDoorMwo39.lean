/-
  WalR4, WalR5, WalR6, WalR7, WalR8, WalP
-/
import Derived.Test.YtepfmpmphcndjaaGreatDoorMwo37
import Derived.Test.YtepfmpmphcndjaaGreatDoorMwo35
import Derived.Test.YtepfmpmphcndjaaGreatDoorMwo40
import Derived.Test.YtepfmpmphcndjaaGreatDoorMwo41
import Derived.Test.YtepfmpmphcndjaaGreatDoorMwo34
import Derived.Test.YtepfmpmphcndjaaGreatDoorMwo19
set_option linter.unusedVariables false
set_option linter.unusedSimpArgs false
section
namespace Go.Proofs.YtepfmpmphcndjaaGreatDoor.wal
open Go.RowKit Go.Proofs.YtepfmpmphcndjaaGreatDoor Go.Proofs.YtepfmpmphcndjaaGreatDoor.frame Go.Proofs.YtepfmpmphcndjaaGreatDoor.disk
set_option maxRecDepth 20000
def ch (nm:ByteArray) (y:Nat):Nat:=(listOf nm).getD y 0
def val4 (nm:ByteArray) (y:Nat):Nat:=value (((listOf nm).take y).drop 4)
abbrev DigI (nm:ByteArray) (y:Nat):Prop:=4≤y∧y≤14∧∀ j,4≤j→j < y→48≤ch nm j∧ch nm j≤57
theorem listOf_len (nm:ByteArray):(listOf nm).length=nm.size:=by
 unfold listOf;rw [List.length_map,Array.length_toList];rfl
section
variable {nm:ByteArray} {y:Nat}
theorem val4_4:val4 nm 4=0:=by
 unfold val4
 rw [List.drop_eq_nil_of_le (by rw [List.length_take];exact Nat.min_le_left _ _)];rfl
theorem val4_next (h:(nm.size:Int)=14) (h1:4≤y) (h2:y < 14):val4 nm (y+1)=val4 nm y * 10+(ch nm y - 48):=by
 have hl:=listOf_len nm
 unfold val4 ch
 rw [List.take_add_one,List.getElem?_eq_getElem (by omega),List.drop_append_of_le_length (by rw [List.length_take];omega)]
 simp only [Option.toList_some]
 rw [value_snoc,List.getD_eq_getElem?_getD,List.getElem?_eq_getElem (by omega)];rfl
theorem val4_lt (h:(nm.size:Int)=14) (hI:DigI nm y):val4 nm y < 10000000000:=by
 have hl:=listOf_len nm
 have hd:(((listOf nm).take y).drop 4).all digit=true:=by
  rw [List.all_eq_true]
  intro x hx
  obtain ⟨k,hk,rfl⟩:=List.getElem_of_mem hx
  rw [List.length_drop,List.length_take] at hk
  have:=hI.2.2 (4+k) (by omega) (by omega)
  unfold ch at this
  rw [List.getD_eq_getElem?_getD,List.getElem?_eq_getElem (by omega)] at this
  rw [List.getElem_drop,List.getElem_take]
  simp only [digit,Bool.and_eq_true,decide_eq_true_eq]
  exact this
 have h1:=(value_dg _ hd).2
 rw [List.length_drop,List.length_take] at h1
 have h2:10 ^ (min y (listOf nm).length - 4)≤10 ^ 10:=Nat.pow_le_pow_right (by decide) (by have:=hI.2.1;omega)
 exact Nat.lt_of_lt_of_le h1 h2
theorem dig_step (h:∀ j,4≤j→j < y→48≤ch nm j∧ch nm j≤57) (h1:48≤ch nm y) (h2:ch nm y≤57):∀ j,4≤j→j < y+1→48≤ch nm j∧ch nm j≤57:=fun j h3 h4=>by
 rcases Nat.lt_or_ge j y with h5 | h5
 ·exact h j h3 h5
 ·rw [show j=y by omega];exact ⟨h1,h2⟩
theorem ext_take (nm:ByteArray):listOf (nm.extract 0 4)=(listOf nm).take 4:=by
 unfold listOf
 rw [ByteArray.data_extract,Array.toList_extract,List.extract_eq_take_drop,← List.map_take]
 rfl
theorem pre_no (h:¬ nm.extract 0 4=⟨#[108,111,103,46]⟩):¬ (listOf nm).take 4=[108,111,103,46]:=fun e=>h (by
 rw [← bytes_listOf (nm.extract 0 4),ext_take,e];rfl)
theorem pre_yes (h:nm.extract 0 4=⟨#[108,111,103,46]⟩):(listOf nm).take 4=[108,111,103,46]:=by
 rw [← ext_take,h];rfl
theorem nu_no (h:¬ (nm.size:Int)=14∨¬ (listOf nm).take 4=[108,111,103,46]∨(∃ y,4≤y∧y < 14∧¬ (48≤ch nm y∧ch nm y≤57))):numOf nm=0:=by
 have hl:=listOf_len nm
 unfold numOf numL
 rw [if_neg];rfl
 rintro ⟨h1,h2,h3,_⟩
 rcases h with h | h | ⟨y,h4,h5,h6⟩
 ·omega
 ·exact h h2
 ·rw [List.all_eq_true] at h3
  have:=h3 (listOf nm)[y] (by
   have:(listOf nm)[y]=((listOf nm).drop 4)[y - 4]'(by rw [List.length_drop];omega):=by
    rw [List.getElem_drop];congr 1;omega
   rw [this];exact List.getElem_mem _)
  simp only [digit,Bool.and_eq_true,decide_eq_true_eq] at this
  unfold ch at h6
  rw [List.getD_eq_getElem?_getD,List.getElem?_eq_getElem (by omega)] at h6
  exact h6 this
theorem nu_all (h:(nm.size:Int)=14) (hI:DigI nm y) (hy:¬ (y:Int) < 14):((listOf nm).drop 4).all digit=true∧value ((listOf nm).drop 4)=val4 nm y:=by
 have hl:=listOf_len nm
 obtain rfl:y=14:=by have:=hI.2.1;omega
 refine ⟨?_,by unfold val4;rw [List.take_of_length_le (by omega)]⟩
 rw [List.all_eq_true]
 intro x hx
 obtain ⟨k,hk,rfl⟩:=List.getElem_of_mem hx
 rw [List.length_drop] at hk
 have:=hI.2.2 (4+k) (by omega) (by omega)
 unfold ch at this
 rw [List.getD_eq_getElem?_getD,List.getElem?_eq_getElem (by omega)] at this
 rw [List.getElem_drop]
 simp only [digit,Bool.and_eq_true,decide_eq_true_eq]
 exact this
theorem nu_yes (h:(nm.size:Int)=14) (hp:(listOf nm).take 4=[108,111,103,46]) (hI:DigI nm y) (hy:¬ (y:Int) < 14) (hb:¬ 1000000000 < ((val4 nm y:Nat):Int)):numOf nm=((val4 nm y:Nat):Int):=by
 have hl:=listOf_len nm
 obtain ⟨h1,h2⟩:=nu_all h hI hy
 unfold numOf numL
 rw [if_pos ⟨by omega,hp,h1,by rw [h2];omega⟩,h2]
theorem nu_big (h:(nm.size:Int)=14) (hp:(listOf nm).take 4=[108,111,103,46]) (hI:DigI nm y) (hy:¬ (y:Int) < 14) (hb:1000000000 < ((val4 nm y:Nat):Int)):numOf nm=0:=by
 obtain ⟨h1,h2⟩:=nu_all h hI hy
 unfold numOf numL
 rw [if_neg];rfl
 rintro ⟨_,_,_,h4⟩
 rw [h2] at h4;omega
variable {P:Program} {w0:World} {D:List Fact}
theorem slice_4 {T:TypeId} (ht:P.underlying T=some .string) (h:(nm.size:Int)=14):Yields0 P w0 D (Instr.sliceAt T (.string nm) none (some (.int .i64 4)) none) (.string (nm.extract 0 4)):=fun w _ _=>by
 rw [run_sliceAt_string w T _ _ _ _ ht]
 have:=run_slice_string_h (P:=P) w T nm ht .i64 4 (by omega) (by omega)
 simpa using this
theorem index_ch {T:TypeId} (ht:P.underlying T=some .string) (h:y < nm.size):Yields0 P w0 D (Instr.index T (.string nm) (.int .i64 (y:Int))) (.int .u8 ((ch nm y:Nat):Int)):=fun w _ _=>by
 rw [run_index_string w T nm .i64 (y:Int) ht]
 have hl:=listOf_len nm
 have e:ch nm y=(nm[y]'h).toNat:=by
  unfold ch
  rw [List.getD_eq_getElem?_getD,List.getElem?_eq_getElem (by omega)]
  simp [listOf,ByteArray.getElem_eq_getElem_data]
 simp [e,h]
theorem sub_48 {a:Nat} (h1:48≤a) (h2:a≤57):(.int .u8 (IntKind.u8.wrap (((a:Nat):Int) - 48)):Value) = .int .u8 ((a - 48:Nat):Int):=by
 have h:IntKind.u8.wrap (((a:Nat):Int) - 48)=((a - 48:Nat):Int):=by rw [IntKind.wrap_u8];omega
 rw [h]
theorem conv_48 {src dst:TypeId} {ds:TypeDesc} {a:Nat} (hs:P.underlying src=some ds) (hd:P.underlying dst=some (.int .i64)) (ha:a≤57):Yields0 P w0 D (convert src dst (.int .u8 ((a - 48:Nat):Int))) (.int .i64 ((a - 48:Nat):Int)):=fun w _ _=>by
 have hk:P.intKind dst = .i64:=by simp [Program.intKind,hd]
 have h:IntKind.i64.wrap ((a - 48:Nat):Int)=((a - 48:Nat):Int):=by rw [IntKind.wrap_i64];omega
 rw [run_convert_int w src dst .u8 _ (by rw [hs];rfl) (by rw [hk];exact hd),hk,h]
end
theorem v_rnumber (nm:ByteArray)  (w:World):Calls Tryz.prog 47 #[.string nm] w fun e w'=>e = .returned (.int .i64 (numOf nm))∧Below w.heap.size w w' :=
 calls_by (fn:=Tryz.f47) (r:=.int .i64 (numOf nm)) (t:=.s (.k .z) (.k (.x (.string (nm.extract 0 4)) (.xs (!decide ((nm.extract 0 4)=⟨#[108,111,103,46]⟩)) .z (.l (Nat) (fun x=>[(0,.string nm,none),(3,.int .i64 ((val4 nm x:Nat):Int),none),(4,.int .i64 (x:Int),none)]) (fun x=>[]) [] [] (fun x=>[]) (fun x=>4≤x∧x≤14∧∀ j,4≤j→j < x→48≤ch nm j∧ch nm j≤57) (fun x=>14 - x) (4:Nat) (fun y3=>let k0:Value:=.int .u8 (((ch nm y3):Nat):Int);let k1:=(((ch nm y3) - 48:Nat):Int); .s (.x k0 (.s (.k .z) (.k (.x k0 (.s .z (.e (.int .i64 ((val4 nm y3 * 10:Nat):Int)) (.x k0 (.e (.int .u8 k1) (.x (.int .i64 k1) (.e (.int .i64 ((val4 nm (y3+1):Nat):Int)) (.e (.int .i64 ((y3+1:Nat):Int)) .z))))))))))) (.s .z .z))))))) (X :=
 let k0:=(.int .i64 0:Value) = .int .i64 (numOf nm);let k1:=nm.extract 0 4;let k2:Value:=.string (⟨#[108,111,103,46]⟩);let k3 := !decide ((nm.size:Int)=14);let k4:=([]:List (Option Blk));(k3=true→k0)∧(k3=false→Yields0 Tryz.prog w [] (Instr.sliceAt 9 (.string nm) none (some (.int .i64 4)) none) (.string k1)∧Yields0 Tryz.prog w [] (do eqGuard BinOp.neq 9 (.tmp 10) (.const k2) (.string k1) k2;Go.binOp BinOp.neq 9 (.string k1) k2) (.bool (!decide (k1=⟨#[108,111,103,46]⟩)))∧((!decide (k1=⟨#[108,111,103,46]⟩))=true→k0)∧((!decide (k1=⟨#[108,111,103,46]⟩))=false→Brings w [] []∧(4≤(4:Nat)∧(4:Nat)≤14∧∀ j,4≤j→j < (4:Nat)→48≤ch nm j∧ch nm j≤57)∧(([.string nm,.int .i64 0,.int .i64 4]:List Value)=[.string nm,.int .i64 ((val4 nm (4:Nat):Nat):Int),.int .i64 ((4:Nat):Int)]∧k4=[]∧Turns w [] [])∧true=true∧∀ (y3:Nat),let k5:=(((ch nm y3):Nat):Int);let k6:=Instr.index 9 (.string nm) (.int .i64 (y3:Int));let k7:=(((ch nm y3) - 48:Nat):Int);let k8:=((val4 nm y3:Nat):Int);let k9:=((val4 nm (y3+1):Nat):Int);let k10:=((val4 nm y3 * 10:Nat):Int);let k11:=decide ((y3:Int) < 14);let k12:=decide (k8 > 1000000000);(4≤y3∧y3≤14∧∀ j,4≤j→j < y3→48≤ch nm j∧ch nm j≤57)→∀ τ5:Nat→Value,(k11=true→Yields0 Tryz.prog w [] k6 (.int .u8 k5)∧((decide (k5 < 48))=true→k0)∧((decide (k5 < 48))=false→Yields0 Tryz.prog w [] k6 (.int .u8 k5)∧((decide (k5 > 57))=true→k0)∧((decide (k5 > 57))=false→(.int .i64 (IntKind.i64.wrap (k8 * 10)):Value) = .int .i64 k10∧Yields0 Tryz.prog w [] k6 (.int .u8 k5)∧(.int .u8 (IntKind.u8.wrap (k5 - 48)):Value) = .int .u8 k7∧Yields0 Tryz.prog w [] (convert 5 2 (.int .u8 k7)) (.int .i64 k7)∧(.int .i64 (IntKind.i64.wrap (k10+k7)):Value) = .int .i64 k9∧(.int .i64 (IntKind.i64.wrap ((y3:Int)+1)):Value) = .int .i64 ((y3+1:Nat):Int)∧∃ x' : Nat,(4≤x'∧x'≤14∧∀ j,4≤j→j < x'→48≤ch nm j∧ch nm j≤57)∧(14 - x' < 14 - y3)∧(([.string nm,.int .i64 k9,.int .i64 ((y3+1:Nat):Int)]:List Value)=[.string nm,.int .i64 ((val4 nm x' : Nat):Int),.int .i64 (x' : Int)]∧k4=[]∧Turns w [] [])∧true=true)))∧(k11=false→(k12=true→k0)∧(k12=false→((.int .i64 k8:Value) = .int .i64 (numOf nm))))))) Tryz.func47 (by kernel_rfl)
 (⟨fun h1=>have h1:¬ (nm.size:Int)=14:=(by simpa using h1)
(by rw [nu_no (.inl (by omega))]),
 fun h1=>have h1:(nm.size:Int)=14:=(by simpa using h1)
⟨(slice_4 Tryz.underlying9 h1),⟨(str_neq _ _),fun h2=>(by rw [nu_no (.inr (.inl (pre_no (by simpa using h2))))]),
 fun h2=>⟨(fun w _ _=>news_nil),⟨Nat.le_refl _,by decide,fun j h1 h2=>absurd h1 (by omega)⟩,⟨(by rw [val4_4];rfl),rfl,(turns_sub (List.nil_sublist _))⟩,rfl,fun y3 I4 τ5=>⟨fun h6=>have h6:(y3:Int) < 14:=(by simpa using h6)
⟨(index_ch Tryz.underlying9 (by omega)),⟨fun h7=>have h7:(((ch nm y3):Nat):Int) < 48:=(by simpa using h7)
(by rw [nu_no (.inr (.inr ⟨y3,by omega,by omega,by omega⟩))]),
 fun h7=>have h7:¬ (((ch nm y3):Nat):Int) < 48:=(by simpa using h7)
⟨(index_ch Tryz.underlying9 (by omega)),⟨fun h8=>have h8:57 < (((ch nm y3):Nat):Int):=(by simpa using h8)
(by rw [nu_no (.inr (.inr ⟨y3,by omega,by omega,by omega⟩))]),
 fun h8=>have h8:¬ 57 < (((ch nm y3):Nat):Int):=(by simpa using h8)
⟨wrap_is (by omega) (by omega) (by have:=val4_lt h1 I4;omega),⟨(index_ch Tryz.underlying9 (by omega)),⟨(sub_48 (by omega) (by omega)),⟨(conv_48 Tryz.underlying5 Tryz.underlying2 (by omega)),⟨wrap_is (by rw [val4_next h1 (by omega) (by omega)];omega) (by omega) (by have:=val4_lt h1 I4;rw [val4_next h1 (by omega) (by omega)];omega),⟨wrap_is rfl (by omega) (by omega),⟨((y3+1):Nat),⟨by omega,by omega,dig_step I4.2.2 (by omega) (by omega)⟩,(by omega),⟨rfl,rfl,(turns_sub (List.nil_sublist _))⟩,rfl⟩⟩⟩⟩⟩⟩⟩⟩⟩⟩⟩,
 fun h6=>have h6:¬ (y3:Int) < 14:=(by simpa using h6)
⟨fun h9=>have h9:1000000000 < ((val4 nm y3:Nat):Int):=(by simpa using h9)
(by rw [nu_big h1 (pre_yes (by simpa using h2)) I4 (by omega) (by omega)]),
 fun h9=>have h9:¬ 1000000000 < ((val4 nm y3:Nat):Int):=(by simpa using h9)
(by rw [nu_yes h1 (pre_yes (by simpa using h2)) I4 (by omega) (by omega)])⟩⟩⟩⟩⟩⟩)
end Go.Proofs.YtepfmpmphcndjaaGreatDoor.wal
end
section
namespace Go.Proofs.YtepfmpmphcndjaaGreatDoor.wal
open Go.RowKit Go.Proofs.YtepfmpmphcndjaaGreatDoor Go.Proofs.YtepfmpmphcndjaaGreatDoor.frame Go.Proofs.YtepfmpmphcndjaaGreatDoor.disk
set_option maxRecDepth 20000
section
variable {w0:World} {D:List Fact} {v:Dv} {s:DiskD}
theorem g_rright (h:InD w0 (Lt w0.heap.size) v s) (hs:shortB s.files=true):Gives Tryz.prog w0 D 46 #[.agg (dc v s)] (.bool (rightB s)):=fun w hw _ =>
 have h1:=h.later hw
 disk.rright v.A s.files.length v.c s.room s.fuse s.down s.files w h1.files rfl (Nat.le_trans h1.l h1.c) h1.r h1.u
theorem seg_ref {w w1:World} {S:Nat→Prop} {A:Option Addr} {c k:Nat} (h:InD w1 S v s) (hI:k=0∨rightB s=true) (hk:v.rs.length≤k∨rightB s=false):∃ x:Option Addr × Nat,(.slice A (segL (v.rs.take k)).length c:Value) = .slice x.1 (segs s).length x.2∧Turns w [ownF (rdInt .i64) 1 2 A (segL (v.rs.take k)).length c (segL (v.rs.take k))] [ownF (rdInt .i64) 1 2 x.1 (segs s).length x.2 (segs s)]:=by
 have e:segs s=segL (v.rs.take k):=by
  cases hr:rightB s with
  |true =>
   rw [hr] at hk
   rw [segs_raw h hr,List.take_of_length_le (hk.resolve_right (by simp))]
  |false =>
   rw [hr] at hI
   obtain rfl:=hI.resolve_right (by simp)
   unfold segs
   rw [if_neg (by rw [hr];simp)];rfl
 rw [e]
 exact ⟨(A,c),rfl,turns_sub (List.Sublist.refl _)⟩
end
theorem v_rsegments (v:Dv) (s:DiskD)  (w:World) (h:InD w (Lt w.heap.size) v s) (hs:shortB s.files=true):Calls Tryz.prog 22 #[.agg (dc v s)] w fun e w' => ∃ x:Option Addr × Nat,e = .returned (.slice x.1 (segs s).length x.2)∧Below w.heap.size w w'∧News (fun _=>False) w.heap.size ([ownF (rdInt .i64) 1 2 x.1 (segs s).length x.2 (segs s)]) w' :=
 have hlen:=h.len
 have h70:=(short_iff.1 hs).1
 calls_mem (fn:=Tryz.f22) (r:=fun (x:Option Addr × Nat)=>.slice x.1 (segs s).length x.2) (fs:=fun (x:Option Addr × Nat)=>[ownF (rdInt .i64) 1 2 x.1 (segs s).length x.2 (segs s)]) (t:=let k0:=Option Addr × Nat; .l (Nat × k0) (fun x=>[(1,undef,some (0,0)),(3,.slice x.2.1 ((segL (v.rs.take x.1)).length) x.2.2,none),(4,.int .i64 (x.1:Int),none)]) (fun x=>[]) [0] [ownF (rdInt .i64) 1 2 none 0 0 ([])] (fun x=>[ownF (rdInt .i64) 1 2 x.2.1 ((segL (v.rs.take x.1)).length) x.2.2 (segL (v.rs.take x.1))]) (fun x=>x.1≤v.rs.length∧(x.1=0∨rightB s=true)) (fun x=>v.rs.length - x.1) ((0,(none,0)):Nat × k0) (fun y1=>let k1:=segL (v.rs.take (y1.1+1));let k2:=v.rs.getD y1.1 rz;let k3:Value:=.int .i64 ((y1.1+1:Nat):Int); .s (.k (.cs (rightB s) (.p (blkA v.A) (offA v.A+y1.1 * 3) (rfc k2) (.c (.int .i64 (numOf k2.f.name)) (.s (.w (Nat) none (fun x=>.slice (some ⟨x,0,none⟩) 1 1) (fun x=>[cellsF x #[.int .i64 (numOf k2.f.name)] 2]) (fun x7=>.w k0 (some 1) (fun x=>.slice x.1 (k1.length) x.2) (fun x=>[ownF (rdInt .i64) 1 2 x.1 (k1.length) x.2 k1]) (fun x8=>.e k3 .z))) (.e k3 .z)))) .z)) (.k .z))) (X :=
 let k1:=Option Addr × Nat;let k0:=((0,(none,0)):Nat × k1);let k2:=segL (v.rs.take k0.1);let k3:List Fact:=[ownF (rdInt .i64) 1 2 none 0 0 ([])]; ∀ g0:Nat,let k4:=([some ⟨g0,0,(dc v s),.own 27⟩]:List (Option Blk));let k5:Option Addr:=some ⟨g0,0,none⟩;Brings w [] k3∧(k0.1≤v.rs.length∧(k0.1=0∨rightB s=true))∧(([.pointer k5,.slice none 0 0,.int .i64 0]:List Value)=[.pointer k5,.slice (k0.2.1) (k2.length) (k0.2.2),.int .i64 (k0.1:Int)]∧k4=[some ⟨g0,0,(dc v s),.own 27⟩]∧Turns w k3 [ownF (rdInt .i64) 1 2 (k0.2.1) (k2.length) (k0.2.2) k2])∧true=true∧∀ (y1:Nat × k1),let k8:=segL (v.rs.take y1.1);let k6:List Fact:=[ownF (rdInt .i64) 1 2 y1.2.1 (k8.length) y1.2.2 k8];let k14:=v.rs.getD y1.1 rz;let k7:=numOf k14.f.name;let k9:=segL (v.rs.take (y1.1+1));let k10:=((y1.1+1:Nat):Int);let k11:=(.int .i64 (IntKind.i64.wrap ((y1.1:Int)+1)):Value);let k12:=decide ((y1.1:Int) < (s.files.length:Int));let k13:=(.slice y1.2.1 (k8.length) y1.2.2:Value);(y1.1≤v.rs.length∧(y1.1=0∨rightB s=true))→∀ τ3:Nat→Value,(k12=true→Gives Tryz.prog w k6 46 #[.agg (dc v s)] (.bool (rightB s))∧((rightB s)=true→Yields0 Tryz.prog w k6 (Instr.indexAt 25 (.slice v.A s.files.length v.c) (.int .i64 (y1.1:Int))) (.pointer (some ⟨blkA v.A,offA v.A+y1.1 * 3,none⟩))∧Reads0 w [] (blkA v.A) (offA v.A+y1.1 * 3) (rfc k14)∧Gives Tryz.prog w k6 47 #[.string (k14.f.name)] (.int .i64 k7)∧((decide (k7 > 0))=true→StepM Tryz.prog w k6 (Instr.buildSlice 47 1 #[(0,.int .i64 k7)]) (fun _=>False) (Nat) (fun x=>.slice (some ⟨x,0,none⟩) 1 1) (fun x=>[cellsF x #[.int .i64 k7] 2])∧∀ x7:Nat,StepM Tryz.prog w [cellsF x7 #[.int .i64 k7] 2,ownF (rdInt .i64) 1 2 y1.2.1 (k8.length) y1.2.2 k8] (Builtin.append_ #[47,47] 47 #[.slice y1.2.1 (k8.length) y1.2.2,.slice (some ⟨x7,0,none⟩) 1 1]) ((ownF (rdInt .i64) 1 2 y1.2.1 (k8.length) y1.2.2 k8).S) k1 (fun x=>.slice x.1 (k9.length) x.2) (fun x=>[ownF (rdInt .i64) 1 2 x.1 (k9.length) x.2 k9])∧∀ x8:Option Addr × Nat,k11 = .int .i64 k10∧∃ x' : Nat × k1,(x'.1≤v.rs.length∧(x'.1=0∨rightB s=true))∧(v.rs.length - x'.1 < v.rs.length - y1.1)∧(([.pointer k5,.slice x8.1 (k9.length) x8.2,.int .i64 k10]:List Value)=[.pointer k5,.slice x'.2.1 ((segL (v.rs.take x'.1)).length) x'.2.2,.int .i64 (x'.1:Int)]∧k4=[some ⟨g0,0,(dc v s),.own 27⟩]∧Turns w [ownF (rdInt .i64) 1 2 x8.1 (k9.length) x8.2 k9,cellsF x7 #[.int .i64 k7] 2] [ownF (rdInt .i64) 1 2 x'.2.1 ((segL (v.rs.take x'.1)).length) x'.2.2 (segL (v.rs.take x'.1))])∧true=true)∧((decide (k7 > 0))=false→k11 = .int .i64 k10∧∃ x' : Nat × k1,(x'.1≤v.rs.length∧(x'.1=0∨rightB s=true))∧(v.rs.length - x'.1 < v.rs.length - y1.1)∧(([.pointer k5,.slice y1.2.1 (k8.length) y1.2.2,.int .i64 k10]:List Value)=[.pointer k5,.slice x'.2.1 ((segL (v.rs.take x'.1)).length) x'.2.2,.int .i64 (x'.1:Int)]∧k4=[some ⟨g0,0,(dc v s),.own 27⟩]∧Turns w k6 [ownF (rdInt .i64) 1 2 x'.2.1 ((segL (v.rs.take x'.1)).length) x'.2.2 (segL (v.rs.take x'.1))])∧true=true))∧((rightB s)=false→∃ x:Option Addr × Nat,k13 = .slice x.1 (segs s).length x.2∧Turns w k6 ([ownF (rdInt .i64) 1 2 x.1 (segs s).length x.2 (segs s)])))∧(k12=false→∃ x:Option Addr × Nat,k13 = .slice x.1 (segs s).length x.2∧Turns w k6 ([ownF (rdInt .i64) 1 2 x.1 (segs s).length x.2 (segs s)]))) Tryz.func22 (by kernel_rfl)
 (fun g0=>⟨(own_nil (keeps_int _) 1 _),⟨Nat.zero_le _,.inl rfl⟩,⟨rfl,rfl,(turns_sub (sub_one rfl))⟩,rfl,fun y1 I2 τ3=>⟨fun h4=>have h4:(y1.1:Int) < (s.files.length:Int):=(by simpa using h4)
⟨(g_rright h hs),fun h5=>⟨(low_index Tryz.underlying25 info_file raw_cells (Nat.le_refl _) h.f h.len (by omega)),(low_reads raw_cells (Nat.le_refl _) h.f (at_getD (by rw [h.len];exact (by omega)))),⟨(fun w1 _ _=>v_rnumber _ w1),⟨fun h6=>have h6:0 < (numOf (v.rs.getD y1.1 rz).f.name):=(by simpa using h6)
⟨(build_step2 (by kernel_rfl) (fun g=>by kernel_rfl)),fun x7=>⟨(step_to2 (by rw [← (segL_yes (by omega) (by have:=numOf_nonneg (v.rs.getD y1.1 rz).f.name;omega))];first | done | simp) (segL_yes (by omega) (by have:=numOf_nonneg (v.rs.getD y1.1 rz).f.name;omega)) (append_core (keeps_int _) (leaf_int _) (by decide) Tryz.underlying47 info_i64 rfl (fun _ h=>h) (row_at (j:=1) rfl) (fun w _ ha=>one_elem (block_at (j:=0) rfl w ha) rfl ⟨rfl,numOf_wf _⟩) rfl (by have:=segL_len (v.rs.take y1.1);have:=List.length_take_le y1.1 v.rs;unfold maxLen;omega) (by have:=segL_len (v.rs.take y1.1);have:=List.length_take_le y1.1 v.rs;omega) (fun h=>h))),fun x8=>⟨wrap_is (by omega) (by omega) (by omega),⟨((y1.1+1,x8):Nat × (Option Addr × Nat)),⟨(by dsimp only;omega),.inr h5⟩,(by dsimp only;omega),⟨rfl,rfl,(turns_sub (.cons_cons _ (List.nil_sublist _)))⟩,rfl⟩⟩⟩⟩,
 fun h6=>have h6:¬ 0 < (numOf (v.rs.getD y1.1 rz).f.name):=(by simpa using h6)
⟨wrap_is (by omega) (by omega) (by omega),⟨((y1.1+1,y1.2):Nat × (Option Addr × Nat)),⟨(by dsimp only;omega),.inr h5⟩,(by dsimp only;omega),⟨(by dsimp only;rw [(segL_no (by omega) (by have:=numOf_nonneg (v.rs.getD y1.1 rz).f.name;omega))]),rfl,(turns_sub (by dsimp only;rw [(segL_no (by omega) (by have:=numOf_nonneg (v.rs.getD y1.1 rz).f.name;omega))];exact .cons_cons _ (List.nil_sublist _)))⟩,rfl⟩⟩⟩⟩⟩,
 fun h5=>(seg_ref h I2.2 (.inr h5))⟩,
 fun h4=>have h4:¬ (y1.1:Int) < (s.files.length:Int):=(by simpa using h4)
(seg_ref h I2.2 (.inl (by omega)))⟩⟩)
end Go.Proofs.YtepfmpmphcndjaaGreatDoor.wal
end
section
namespace Go.Proofs.YtepfmpmphcndjaaGreatDoor.wal
open Go.RowKit Go.Proofs.YtepfmpmphcndjaaGreatDoor Go.Proofs.YtepfmpmphcndjaaGreatDoor.frame Go.Proofs.YtepfmpmphcndjaaGreatDoor.disk
set_option maxRecDepth 20000
section
variable {w0 w1:World} {D:List Fact} {S:Nat→Prop} {u:Dv} {t:DiskD} {s:Wl}
end
end Go.Proofs.YtepfmpmphcndjaaGreatDoor.wal
end
section
namespace Go.Proofs.YtepfmpmphcndjaaGreatDoor.wal
open Go.RowKit Go.Proofs.YtepfmpmphcndjaaGreatDoor Go.Proofs.YtepfmpmphcndjaaGreatDoor.frame Go.Proofs.YtepfmpmphcndjaaGreatDoor.disk
set_option maxRecDepth 20000
section
variable {d:DiskD} {lsn L:Int} {i:Nat} {s:Wl} {t:DiskD}
end
section
variable {w0 W:World} {D:List Fact} {S:Nat→Prop} {u:Dv} {t:DiskD}
theorem d_rremove {w:World} {v:Dv} {s:DiskD} (hS:∀ k,S k→k < w.heap.size) (h:InD w S v s) (hs:shortB s.files=true) {nm:ByteArray} (hn:nm.size≤100):Calls Tryz.prog 43 #[.agg (dc v s),.string nm] w (RetD S w (removeD s nm)) :=
 (disk.rremove v.A s.files.length v.c s.room s.fuse s.down nm s.files S w hS h.files rfl (by have:=(short_iff.1 hs).1;omega) h.l h.c h.r h.u (by unfold maxLen;omega)).mono fun e w'=>ret_d (op_in h.r h.u)
theorem g_rremove {nm:ByteArray} (hF:Fixed w0 D S W) (hin:∀ w,Below w0.heap.size w0 w→All D w→InD w S u t) (hs:shortB t.files=true) (hn:nm.size≤100) :
  GivesM Tryz.prog w0 D 43 #[.agg (dc u t),.string nm] (Dat (fun w S v=>InD w S v (removeD t nm).1) S W) (fun x=>.tuple #[.agg (dc x.1.2.2 (removeD t nm).1),.int .i64 (removeD t nm).2]) (fun x=>[poolF x.1.1 x.1.2.1]) :=
 gives_dat (R:=fun w S v=>InD w S v (removeD t nm).1) (r:=fun b=>.tuple #[.agg (dc b (removeD t nm).1),.int .i64 (removeD t nm).2]) hF (fun w hw ha=>d_rremove (hF w hw ha).2 (hin w hw ha) hs hn)
theorem n_rname {n:Int} (h:1≤n∧n≤1000000000):Gives Tryz.prog w0 D 23 #[.int .i64 n] (.string (nameV n)):=fun w _ _=>by
 have e:nameV n=nameOf n:=by unfold nameV;rw [if_pos h]
 rw [e]
 exact v_rname n (by omega) (by unfold inI;omega) w
end
end Go.Proofs.YtepfmpmphcndjaaGreatDoor.wal
end
section
namespace Go.Proofs.YtepfmpmphcndjaaGreatDoor.wal
open Go.RowKit Go.Proofs.YtepfmpmphcndjaaGreatDoor Go.Proofs.YtepfmpmphcndjaaGreatDoor.frame Go.Proofs.YtepfmpmphcndjaaGreatDoor.disk
set_option maxRecDepth 20000
section
variable {s a:Wl} {t b:DiskD} {G C:Int} {k:Nat}
end
section
variable {w0 W:World} {D:List Fact} {S:Nat→Prop} {v:Jv} {s:Wl} {u:Dv} {t:DiskD}
end
end Go.Proofs.YtepfmpmphcndjaaGreatDoor.wal
end
section
namespace Go.Proofs.YtepfmpmphcndjaaGreatDoor.wal
set_option maxRecDepth 20000
open Go.RowKit Go.Proofs.YtepfmpmphcndjaaGreatDoor Go.Proofs.YtepfmpmphcndjaaGreatDoor.frame Go.Proofs.YtepfmpmphcndjaaGreatDoor.disk
theorem named_name (n:Int):named (nameOf n)=true:=by
 have e:(nameOf n).data.toList=(nameL n.toNat).map Nat.toUInt8:=rfl
 have hs:(nameOf n).size=14:=by
  show (nameOf n).data.size=14
  rw [← Array.length_toList,e,List.length_map,nameL_len]
 unfold named
 rw [e,hs]
 simp only [Bool.and_eq_true,decide_eq_true_eq,List.all_eq_true,List.mem_map]
 refine ⟨⟨?_,by omega⟩,by omega⟩
 rintro c ⟨x,hx,rfl⟩
 unfold nameL at hx
 rcases List.mem_append.1 hx with hx | hx
 ·simp at hx
  rcases hx with rfl | rfl | rfl | rfl<;>decide
 ·have h1:=List.all_eq_true.1 (dg_digit 10 n.toNat) x hx
  unfold digit at h1
  simp only [Bool.and_eq_true,decide_eq_true_eq] at h1
  have hc:∀ x:Nat,x < 58→48≤x→signOk x.toUInt8=true:=by decide
  exact hc x (by omega) h1.1
def fileN (fs:List FileD) (nm:ByteArray) (b:List Nat):FileD:=⟨nm,(oldOf nm fs).data++b,(((oldOf nm fs).data++b).length:Nat)⟩
def addF (fs:List FileD) (nm:ByteArray) (b:List Nat):List FileD:=withF (fileN fs nm b) fs
def addD (d:DiskD) (nm:ByteArray) (b:List Nat):DiskD:=⟨addF d.files nm b,d.room, -1,false⟩
theorem plain_row {d:DiskD} (h:Plain d):Row d.files:=(right_files h.1).2.2.1
theorem old_appF {fs:List FileD} {nm:ByteArray} {b:List Nat} (h:Row fs):oldOf nm (appF fs nm b) = { oldOf nm fs with data:=(oldOf nm fs).data++b }:=by
 have:=look_appF (nm:=nm) (b:=b) h
 unfold oldOf at this ⊢
 rw [this];rfl
theorem plain_write {d:DiskD} (h:Plain d) {nm:ByteArray} {b:List Nat} (hn:named nm=true) (hu:((used d.files+b.length:Nat):Int)≤d.room) (hl:disk.look nm d.files=none→d.files.length < 64) :
  ∃ x,appendD d nm b=(x,0)∧syncD x nm=(addD d nm b,0)∧Plain (addD d nm b):=by
 have hrow:=plain_row h
 have e1:appendD d nm b=(⟨appF d.files nm b,d.room, -1,false⟩,0):=by
  unfold appendD
  rw [plain_op h,hn,appE_iff.2 ⟨hu,hl⟩]
  rfl
 have hp:Plain ⟨appF d.files nm b,d.room, -1,false⟩:=by
  have:=right_append (nm:=nm) (b:=b) h.1
  rw [e1] at this
  exact ⟨this,rfl,rfl⟩
 have e2:syncD ⟨appF d.files nm b,d.room, -1,false⟩ nm=(addD d nm b,0):=by
  unfold syncD
  rw [plain_op hp,hn]
  have hne:noE (appF d.files nm b) nm=0:=by
   unfold noE
   rw [look_appF hrow,if_neg (by simp)]
  show (if (true && true)=true then (if noE (appF d.files nm b) nm≠0 then _ else _) else _)=_
  rw [hne]
  show (DiskD.mk (syncF (appF d.files nm b) nm) d.room (-1) false,(0:Int))=_
  unfold addD addF fileN syncF
  rw [old_appF hrow]
  unfold appF
  rw [with_with hrow (by exact rfl)]
  have hnm:=old_name nm d.files
  simp only [hnm]
 refine ⟨_,e1,e2,?_⟩
 have:=right_sync (nm:=nm) hp.1
 rw [e2] at this
 exact ⟨this,rfl,rfl⟩
theorem look_add {d:DiskD} (h:Plain d) (nm:ByteArray) (b:List Nat):disk.look nm (addF d.files nm b)=some (fileN d.files nm b):=look_with (fileN d.files nm b) (plain_row h)
theorem old_add {d:DiskD} (h:Plain d) (nm:ByteArray) (b:List Nat):oldOf nm (addF d.files nm b)=fileN d.files nm b:=by
 unfold oldOf;rw [look_add h];rfl
theorem add_add {d:DiskD} (h:Plain d) (nm:ByteArray) (a b:List Nat):addD (addD d nm a) nm b=addD d nm (a++b):=by
 unfold addD
 show DiskD.mk (withF (fileN (addF d.files nm a) nm b) (addF d.files nm a)) _ _ _=_
 have e:fileN (addF d.files nm a) nm b=fileN d.files nm (a++b):=by
  unfold fileN
  rw [old_add h]
  simp [fileN,List.append_assoc]
 rw [e]
 unfold addF
 rw [with_with (f:=fileN d.files nm a) (g:=fileN d.files nm (a++b)) (plain_row h) rfl]
theorem used_add {d:DiskD} (h:Plain d) (nm:ByteArray) (b:List Nat):used (addF d.files nm b)=used d.files+b.length∧(addF d.files nm b).length≤d.files.length+1∧(disk.look nm d.files≠none→(addF d.files nm b).length=d.files.length):=by
 have hr:=plain_row h
 have hnn:(fileN d.files nm b).name=nm:=rfl
 have hd:(fileN d.files nm b).data.length=(oldOf nm d.files).data.length+b.length:=by unfold fileN;simp
 unfold addF
 rcases old_cases nm d.files with ⟨e1,e2⟩ | ⟨f,e1,e2,e3,e4⟩
 ·have h2:=with_new (fileN d.files nm b) hr (by rw [hnn];exact look_none e1)
  rw [e2] at hd
  refine ⟨by rw [h2.1,hd];simp,by rw [h2.2];omega,fun hl=>absurd e1 hl⟩
 ·have h2:=with_old (fileN d.files nm b) f hr e3 (by rw [hnn];exact e4)
  rw [e2] at hd
  have:=h2.1
  exact ⟨by omega,by rw [h2.2];omega,fun _=>h2.2⟩
inductive Done:Wl→DiskD→Wl→DiskD→Prop
 |nil {s:Wl} {t:DiskD} (h:s.ws=[]):Done s t s t
 |step {s s' : Wl} {t t' : DiskD} (h:s.ws≠[]) (d:Done (stepW s) (addD t (nameOf (stepW s).g) (scan.put (s.ws.take (room s)))) s' t'):Done s t s' t'
structure Bud (s:Wl) (t:DiskD):Prop where
 p:Plain t
 r:right s=true
 u:((used t.files+72 * s.ws.length:Nat):Int)≤t.room
 l:t.files.length+s.ws.length≤64
theorem step_ws (s:Wl):(stepW s).ws=s.ws.drop (room s):=rfl
theorem room_pos {s:Wl} (hr:right s=true) (hne:s.ws≠[]):1≤room s:=by
 have h1:=room_eq hr (⟨rfl,rfl⟩:StepIs s (begun s).g (begun s).c);have h2:=step_rng hr (⟨rfl,rfl⟩:StepIs s (begun s).g (begun s).c);have:=ws_pos hne
 rw [h1];omega
theorem put_len' (s:Wl):(scan.put (s.ws.take (room s))).length=72 * room s:=by
 rw [scan.put_len,List.length_take,Nat.min_eq_left (room_le s)]
theorem bud_write {s:Wl} {t:DiskD} (h:Bud s t) (hne:s.ws≠[]):writeW s t=(stepW s,addD t (nameOf (stepW s).g) (scan.put (s.ws.take (room s))),0)∧Bud (stepW s) (addD t (nameOf (stepW s).g) (scan.put (s.ws.take (room s)))):=by
 have hle:=room_le s;have hp:=ws_pos hne;have hl:=put_len' s;have h1:=h.u;have h2:=h.l;have h3:=room_pos h.r hne
 obtain ⟨x,e1,e2,e3⟩:=plain_write h.p (named_name (stepW s).g) (b:=scan.put (s.ws.take (room s))) (by rw [hl];omega) (fun _=>by omega)
 have hu:=used_add h.p (nameOf (stepW s).g) (scan.put (s.ws.take (room s)))
 have hw:(stepW s).ws.length=s.ws.length - room s:=by rw [step_ws,List.length_drop]
 refine ⟨?_,e3,(step_right h.r hne).1,?_,?_⟩
 ·unfold writeW
  simp only [e1,e2,if_true]
 ·show ((used (addF t.files _ _)+72 * (stepW s).ws.length:Nat):Int)≤t.room
  rw [hu.1,hl,hw];omega
 ·show (addF t.files _ _).length+(stepW s).ws.length≤64
  have:=hu.2.1
  rw [hw];omega
theorem step_ne (s:Wl):(stepW s).n=s.n∧(stepW s).e=s.e:=by unfold stepW begun;split<;>exact ⟨rfl,rfl⟩
theorem commit_done:∀ (k:Nat) (s:Wl) (t:DiskD),Bud s t→s.ws.length≤k→∃ s' t',Done s t s' t'∧commitA k s t=(s',t',0)∧Bud s' t'∧s'.ws=[]∧s'.n=s.n∧s'.e=s.e
 | 0,s,t,h,hk=>⟨s,t,.nil (List.eq_nil_of_length_eq_zero (by omega)),rfl,h,List.eq_nil_of_length_eq_zero (by omega),rfl,rfl⟩
 |k+1,s,t,h,hk=>by
  unfold commitA
  by_cases hne:s.ws=[]
  ·rw [if_pos hne];exact ⟨s,t,.nil hne,rfl,h,hne,rfl,rfl⟩
  ·obtain ⟨e,hb⟩:=bud_write h hne
   have h1:=(step_right h.r hne).2
   obtain ⟨s',t',h2,h3,h4,h5,h6,h7⟩:=commit_done k _ _ hb (by omega)
   rw [if_neg hne,e,if_pos rfl]
   exact ⟨s',t',.step hne h2,h3,h4,h5,h6.trans (step_ne s).1,h7.trans (step_ne s).2⟩
theorem Done.uniq {s a b:Wl} {t x y:DiskD} (h:Done s t a x) (h2:Done s t b y):a=b∧x=y:=by
 induction h with
 |nil e =>
  cases h2 with
  |nil _=>exact ⟨rfl,rfl⟩
  |step hne _=>exact absurd e hne
 |step hne d ih =>
  cases h2 with
  |nil e=>exact absurd e hne
  |step _ d2=>exact ih d2
abbrev wit (s:Wl) (n:Int) (ws:List FrameD):Wl:=⟨s.e,n,s.u,s.g,s.c,ws⟩
theorem begun_wit (s:Wl) (n:Int) (ws:List FrameD):(begun (wit s n ws)).g=(begun s).g∧(begun (wit s n ws)).c=(begun s).c∧(begun (wit s n ws)).u=s.u∧(begun (wit s n ws)).n=n∧(begun (wit s n ws)).e=s.e:=by
 unfold begun
 by_cases h:s.g=0∨s.c=8
 ·simp [h]
 ·simp [h]
theorem step_wit {s:Wl} {n:Int} {ws:List FrameD} {r:Nat} (h:room (wit s n ws)=r):stepW (wit s n ws)=⟨s.e,n,s.u+(r:Int),(begun s).g,(begun s).c+(r:Int),ws.drop r⟩:=by
 obtain ⟨h1,h2,h3,h4,h5⟩:=begun_wit s n ws
 show (⟨(begun (wit s n ws)).e,(begun (wit s n ws)).n,s.u+(room (wit s n ws):Int),(begun (wit s n ws)).g,(begun (wit s n ws)).c+(room (wit s n ws):Int),ws.drop (room (wit s n ws))⟩:Wl)=_
 rw [h,h1,h2,h4,h5]
theorem room_wit (s:Wl) (n:Int) (ws:List FrameD):room (wit s n ws)=min ws.length (8 - (begun s).c).toNat:=by
 unfold room;rw [(begun_wit s n ws).2.1]
theorem done_parts {n' : Int} {B:List FrameD} {s s1:Wl} {t t1:DiskD} (h:Done s t s1 t1):Bud s t→∀ {s2 t2},Done (wit s1 n' B) t1 s2 t2→Done (wit s n' (s.ws++B)) t s2 t2:=by
 induction h with
 |nil e =>
  intro hb s2 t2 h2
  rw [e];exact h2
 | @step s s' t t' hne d ih =>
  intro hb s2 t2 h2
  have hr:=hb.r;have hp:=hb.p
  have hwne:s.ws++B≠[]:=fun e=>hne (List.append_eq_nil_iff.1 e).1
  have hpos:=ws_pos hne
  have hst:StepIs s (begun s).g (begun s).c:=⟨rfl,rfl⟩
  have hrng:=step_rng hr hst
  have hf:=right_facts hr
  have hrm:room s=min s.ws.length (8 - (begun s).c).toNat:=room_eq hr hst
  have hlap:(s.ws++B).length=s.ws.length+B.length:=List.length_append
  have hrm2:room (wit s n' (s.ws++B))=min (s.ws.length+B.length) (8 - (begun s).c).toNat:=by rw [room_wit,hlap]
  have hse:stepW s=⟨s.e,s.n,s.u+(room s:Int),(begun s).g,(begun s).c+(room s:Int),s.ws.drop (room s)⟩:=step_wit (s:=s) (n:=s.n) (ws:=s.ws) (r:=room s) rfl
  have hbw:=(bud_write hb hne).2
  have hpl:=hbw.p
  refine Done.step hwne ?_
  by_cases hcase:(8 - (begun s).c).toNat≤s.ws.length
  ·have hr2:room (wit s n' (s.ws++B))=room s:=by rw [hrm2,hrm];omega
   have hle:=room_le s
   have e1:stepW (wit s n' (s.ws++B))=wit (stepW s) n' ((stepW s).ws++B):=by
    rw [step_wit hr2,hse,List.drop_append_of_le_length hle]
   have e2:(s.ws++B).take (room s)=s.ws.take (room s):=List.take_append_of_le_length hle
   have:=ih hbw h2
   rw [e1,hr2]
   show Done _ (addD t (nameOf (stepW s).g) (scan.put ((s.ws++B).take (room s)))) s2 t2
   rw [e2]
   exact this
  ·have hrA:room s=s.ws.length:=by rw [hrm];omega
   have hnil:(stepW s).ws=[]:=by rw [step_ws,hrA,List.drop_length]
   obtain ⟨rfl,rfl⟩:=d.uniq (.nil hnil)
   have htk:s.ws.take (room s)=s.ws:=by rw [hrA,List.take_length]
   rw [htk] at h2 hpl
   have hc1:(begun s).c+(room s:Int)≠8:=by omega
   have hg1:(begun s).g≠0:=by omega
   cases B with
   |nil =>
    have hr2:room (wit s n' (s.ws++[]))=room s:=by rw [hrm2,hrm];simp
    have e1:stepW (wit s n' (s.ws++[]))=wit (stepW s) n' []:=by
     rw [step_wit hr2,hse,List.append_nil,hrA,List.drop_length]
    rw [e1,hr2,List.append_nil]
    show Done _ (addD t (nameOf (stepW s).g) (scan.put (s.ws.take (room s)))) s2 t2
    rw [htk]
    exact h2
   |cons b B =>
    cases h2 with
    |nil e=>exact absurd e (by simp)
    |step _ h2 =>
     have hbg:begun (wit (stepW s) n' (b :: B))=wit (stepW s) n' (b :: B):=by
      unfold begun
      rw [if_neg]
      rw [hse]
      show ¬ ((begun s).g=0∨(begun s).c+(room s:Int)=8)
      omega
     have hC:(begun (stepW s)).c=(begun s).c+(room s:Int)∧(begun (stepW s)).g=(begun s).g:=by
      obtain ⟨h1,h2,_⟩:=begun_wit (stepW s) n' (b :: B)
      rw [← h1,← h2,hbg,hse]
      exact ⟨rfl,rfl⟩
     obtain ⟨q,hq'⟩:∃ q,room (wit (stepW s) n' (b :: B))=q:=⟨_,rfl⟩
     have hq2:q=min (b :: B).length (8 - ((begun s).c+(room s:Int))).toNat:=by rw [← hq',room_wit,hC.1]
     have hr2:room (wit s n' (s.ws++b :: B))=s.ws.length+q:=by rw [hrm2,hq2,hrA];omega
     have e1:stepW (wit s n' (s.ws++b :: B))=stepW (wit (stepW s) n' (b :: B)):=by
      rw [step_wit hr2,step_wit hq',hC.1,hC.2,hse]
      simp only [hrA,Wl.mk.injEq,true_and]
      refine ⟨by push_cast;omega,by push_cast;omega,?_⟩
      rw [List.drop_append,List.drop_eq_nil_of_le (by omega)]
      simp
     have e2:(s.ws++b :: B).take (s.ws.length+q)=s.ws++(b :: B).take q:=by
      rw [List.take_append,List.take_of_length_le (by omega)]
      simp
     have e3:(stepW (wit (stepW s) n' (b :: B))).g=(stepW s).g:=by
      rw [step_wit hq',hC.2,hse]
     rw [e1,hr2,e3]
     rw [hq',e3] at h2
     show Done _ (addD t (nameOf (stepW s).g) (scan.put ((s.ws++b :: B).take (s.ws.length+q)))) s2 t2
     rw [e2,scan.put_append,← add_add hp]
     exact h2
theorem segs_iff {t:DiskD} (hr:rightB t=true) {n:Int} : n ∈ segs t ↔ 0 < n∧∃ f ∈ t.files,numOf f.name=n:=by
 unfold segs
 rw [if_pos hr,List.mem_filter,List.mem_map]
 simp only [decide_eq_true_eq]
 constructor
 ·rintro ⟨⟨f,h1,h2⟩,h3⟩;exact ⟨h3,f,h1,h2⟩
 ·rintro ⟨h3,f,h1,h2⟩;exact ⟨⟨f,h1,h2⟩,h3⟩
theorem fits_iff {s:Wl} {t:DiskD} : fitsL s t=true ↔ right s=true∧rightB t=true∧(∀ x ∈ segs t,x≤s.u)∧(s.g=0∨((heldV t s.g).length:Int)=s.c * 72):=by
 unfold fitsL
 simp only [Bool.and_eq_true,Bool.or_eq_true,decide_eq_true_eq,Bool.not_eq_true',List.any_eq_false,Int.not_lt]
 constructor
 ·rintro ⟨⟨h1,h2⟩,h3,h4⟩;exact ⟨h1,h2,h3,h4⟩
 ·rintro ⟨h1,h2,h3,h4⟩;exact ⟨⟨h1,h2⟩,h3,h4⟩
theorem last_all:∀ (l:List FrameD) (e:Int),(∀ f ∈ l,f.e=e)→scan.last l e=e
 | [],_,_=>rfl
 |f :: l,e,h=>by rw [scan.last_cons,h f (by simp)];exact last_all l e (fun g hg=>h g (by simp [hg]))
theorem put_right {s:Wl} {k b0 b1 b2 b3 b4 b5:Int} (hr:right s=true) (h:¬ (k < 1∨6 < k)∧¬ 1000000000 < s.n∧¬ 32≤s.ws.length):right (wit s (s.n+1) (s.ws++[newF s k b0 b1 b2 b3 b4 b5]))=true:=by
 have hf:=right_facts hr
 have hr0:=hr
 rw [right_split] at hr
 unfold waitsL at hr
 simp only [Bool.and_eq_true,decide_eq_true_eq,Bool.not_eq_true'] at hr
 obtain ⟨⟨_,⟨_,hrow⟩,hany⟩,hseg⟩:=hr
 have hall:∀ f ∈ s.ws,f.e=s.e:=fun f hf=>by
  have:=(List.any_eq_false.1 hany) f hf
  simpa using this
 refine right_yes (by simp only;omega) (waits_yes ?_ ?_ ?_) hseg
 ·simp only [List.length_append,List.length_singleton];omega
 ·show scan.row (s.ws++[newF s k b0 b1 b2 b3 b4 b5]) (s.u+1) s.e=true
  rw [scan.row_append,hrow,last_all _ _ hall]
  simp only [Bool.true_and]
  refine (scan.row_cons _ _ _ _).2 ⟨?_,?_,Int.le_refl _,rfl⟩
  ·unfold frame.right newF
   exact decide_eq_true (by simp only;omega)
  ·show s.n=_;omega
 ·show (s.ws++[newF s k b0 b1 b2 b3 b4 b5]).any _=false
  rw [List.any_append,hany]
  show (!decide (s.e=s.e) || false)=false
  simp
theorem put_fits {s:Wl} {t:DiskD} {k b0 b1 b2 b3 b4 b5:Int} (hf:fitsL s t=true) (h:¬ (k < 1∨6 < k)∧¬ 1000000000 < s.n∧¬ 32≤s.ws.length):fitsL (wit s (s.n+1) (s.ws++[newF s k b0 b1 b2 b3 b4 b5])) t=true:=by
 obtain ⟨h1,h2,h3,h4⟩:=fits_iff.1 hf
 exact fits_iff.2 ⟨put_right h1 h,h2,h3,h4⟩
theorem done_used {s s' : Wl} {t t' : DiskD} (h:Done s t s' t'):Bud s t→used t'.files≤used t.files+72 * s.ws.length∧t'.files.length≤t.files.length+s.ws.length∧t'.room=t.room:=by
 induction h with
 |nil e=>intro _;exact ⟨by omega,by omega,rfl⟩
 | @step s s' t t' hne d ih =>
  intro hb
  obtain ⟨h1,h2,h3⟩:=ih (bud_write hb hne).2
  have hu:=used_add hb.p (nameOf (stepW s).g) (scan.put (s.ws.take (room s)))
  have hw:(stepW s).ws.length=s.ws.length - room s:=by rw [step_ws,List.length_drop]
  have hl:=put_len' s;have hle:=room_le s;have hp:=room_pos hb.r hne
  have hu1:used (addD t (nameOf (stepW s).g) (scan.put (s.ws.take (room s)))).files=used t.files+(scan.put (s.ws.take (room s))).length:=hu.1
  have hu2:(addD t (nameOf (stepW s).g) (scan.put (s.ws.take (room s)))).files.length≤t.files.length+1:=hu.2.1
  rw [hw] at h1 h2
  exact ⟨by omega,by omega,h3⟩
theorem done_more {s C:Wl} {t E:DiskD} {n' : Int} {B:List FrameD} (d:Done s t C E) (hb:Bud s t) (hb2:Bud (wit s n' (s.ws++B)) t) (hC:right (wit C n' B)=true):∃ s2 t2,Done (wit C n' B) E s2 t2:=by
 obtain ⟨s1,t1,a1,a2,a3,a4,a5,a6⟩:=commit_done s.ws.length s t hb (Nat.le_refl _)
 obtain ⟨rfl,rfl⟩:=a1.uniq d
 have hu:=done_used d hb
 have h1:=hb2.u;have h2:=hb2.l
 have hl:(s.ws++B).length=s.ws.length+B.length:=List.length_append
 have hwl:(wit s n' (s.ws++B)).ws.length=s.ws.length+B.length:=hl
 rw [hwl] at h1 h2
 have hbC:Bud (wit s1 n' B) t1:=⟨a3.p,hC,by show ((used t1.files+72 * B.length:Nat):Int)≤t1.room;rw [hu.2.2];omega,by show t1.files.length+B.length≤64;omega⟩
 obtain ⟨s2,t2,b1,_⟩:=commit_done B.length _ _ hbC (Nat.le_refl _)
 exact ⟨s2,t2,b1⟩
structure Bd (i:Nat) (s:Wl) (t:DiskD):Prop where
 p:Plain t
 f:fitsL s t=true
 m:t.room=65536
 u:used t.files+72 * s.ws.length≤72 * i
 l:t.files.length+s.ws.length≤i
theorem Bd.bud {i:Nat} {s:Wl} {t:DiskD} (h:Bd i s t) (hi:i≤32):Bud s t:=⟨h.p,right_of_fits h.f,by have:=h.u;have:=h.m;omega,by have:=h.l;omega⟩
structure PartsI (D0:DiskD) (i:Nat) (one two:Wl) (x:DiskD):Prop where
 h1:Bd i one D0
 h2:Bd i two x
 n:one.n=two.n
 e:one.e=two.e
 ni:one.n=(i:Int)+1
 i:i≤32
 d:∃ C E,Done one D0 C E∧Done two x C E
section
variable {D0 x:DiskD} {i:Nat} {one two:Wl} {k b0 b1 b2 b3 b4 b5:Int}
theorem bd_put {s:Wl} {t:DiskD} (h:Bd i s t) (hk:¬ (k < 1∨6 < k)) (hn:s.n=(i:Int)+1) (hi:i < 32):putW s k b0 b1 b2 b3 b4 b5=(wit s (s.n+1) (s.ws++[newF s k b0 b1 b2 b3 b4 b5]),0)∧Bd (i+1) (wit s (s.n+1) (s.ws++[newF s k b0 b1 b2 b3 b4 b5])) t:=by
 have hl:=h.l;have hu:=h.u
 have hq:¬ (k < 1∨6 < k)∧¬ 1000000000 < s.n∧¬ 32≤s.ws.length:=⟨hk,by omega,by omega⟩
 refine ⟨put_yes (right_of_fits h.f) hq,h.p,put_fits h.f hq,h.m,?_,?_⟩
 ·simp only [List.length_append,List.length_singleton];omega
 ·simp only [List.length_append,List.length_singleton];omega
theorem PartsI.put (h:PartsI D0 i one two x) (hk:¬ (k < 1∨6 < k)) (hi:i < 32) :
  (putW one k b0 b1 b2 b3 b4 b5).2=0∧(putW two k b0 b1 b2 b3 b4 b5).2=0∧PartsI D0 (i+1) (putW one k b0 b1 b2 b3 b4 b5).1 (putW two k b0 b1 b2 b3 b4 b5).1 x:=by
 obtain ⟨e1,g1⟩:=bd_put (b0:=b0) (b1:=b1) (b2:=b2) (b3:=b3) (b4:=b4) (b5:=b5) h.h1 hk h.ni hi
 obtain ⟨e2,g2⟩:=bd_put (b0:=b0) (b1:=b1) (b2:=b2) (b3:=b3) (b4:=b4) (b5:=b5) h.h2 hk (h.n▸h.ni) hi
 rw [e1,e2]
 refine ⟨rfl,rfl,g1,g2,by show one.n+1=two.n+1;rw [h.n],h.e,by show one.n+1=_;have:=h.ni;push_cast;omega,hi,?_⟩
 obtain ⟨C,E,d1,d2⟩:=h.d
 have hf:newF one k b0 b1 b2 b3 b4 b5=newF two k b0 b1 b2 b3 b4 b5:=by unfold newF;rw [h.e,h.n]
 obtain ⟨s2,t2,hd,_⟩:=commit_done 33 _ _ (g1.bud hi) (by have:=right_facts (right_of_fits g1.f);omega)
 obtain ⟨s1,t1,a1',a2',a3',a4',a5',a6'⟩:=commit_done 33 one D0 (h.h1.bud h.i) (by have:=right_facts (right_of_fits h.h1.f);omega)
 obtain ⟨rfl,rfl⟩:=a1'.uniq d1
 have hCr:right (wit s1 (one.n+1) [newF one k b0 b1 b2 b3 b4 b5])=true:=by
  have hn:one.n≤1000000000:=by have:=h.ni;omega
  have:=put_right (b0:=b0) (b1:=b1) (b2:=b2) (b3:=b3) (b4:=b4) (b5:=b5) a3'.r ⟨hk,by rw [a5'];omega,by rw [a4'];simp⟩
  rw [a4',a5'] at this
  have e:newF s1 k b0 b1 b2 b3 b4 b5=newF one k b0 b1 b2 b3 b4 b5:=by unfold newF;rw [a5',a6']
  rw [e] at this
  exact this
 have hC:∃ s2 t2,Done (wit s1 (one.n+1) [newF one k b0 b1 b2 b3 b4 b5]) t1 s2 t2:=done_more d1 (h.h1.bud h.i) (g1.bud hi) hCr
 obtain ⟨s3,t3,h3⟩:=hC
 have a1:=done_parts d1 (h.h1.bud h.i) h3
 have h3' : Done (wit s1 (two.n+1) [newF two k b0 b1 b2 b3 b4 b5]) t1 s3 t3:=by rw [← hf,← h.n];exact h3
 have a2:=done_parts d2 (h.h2.bud h.i) h3'
 exact ⟨s3,t3,a1,a2⟩
end
end Go.Proofs.YtepfmpmphcndjaaGreatDoor.wal
end
