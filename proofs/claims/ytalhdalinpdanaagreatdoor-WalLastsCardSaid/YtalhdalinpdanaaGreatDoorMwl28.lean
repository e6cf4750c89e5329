/-
  WalI1
-/
import Derived.Test.YtalhdalinpdanaaGreatDoorMwl26
import Derived.Test.YtalhdalinpdanaaGreatDoorMwl27
set_option linter.unusedVariables false
set_option linter.unusedSimpArgs false
namespace Go.Proofs.YtalhdalinpdanaaGreatDoor.wal
open Go.RowKit Go.Proofs.YtalhdalinpdanaaGreatDoor Go.Proofs.YtalhdalinpdanaaGreatDoor.frame Go.Proofs.YtalhdalinpdanaaGreatDoor.disk
set_option maxRecDepth 20000
def itoaB (n:Int):ByteArray:=⟨(Lib.itoa n).toArray⟩
def padB (n:Int):ByteArray:=⟨(Lib.repeatL [48] (10 - (itoaB n).size)).toArray⟩
def zeroB (n:Int):ByteArray:=⟨([108,111,103,46]++Lib.repeatL [48] (10 - (itoaB n).size)).toArray⟩
def trimB (s:ByteArray):ByteArray:=⟨(Lib.trimPrefix s.data.toList [108,111,103,46]).toArray⟩
section
variable {w0:World} {D:List Fact} {n:Int}
theorem itoaB_size (h:1≤n∧n≤1000000000):(itoaB n).size≤10:=by
 have:=(name_list h.1 h.2).1
 show (Lib.itoa n).toArray.size≤10
 simpa using this
theorem zeroB_size (h:1≤n∧n≤1000000000):(zeroB n).size≤14∧(padB n).size≤10:=by
 have h1:(padB n).size≤10:=by
  show (Lib.repeatL [48] (10 - (itoaB n).size)).toArray.size≤10
  simp [Lib.repeatL_length]
 refine ⟨?_,h1⟩
 show ([108,111,103,46]++Lib.repeatL [48] (10 - (itoaB n).size)).toArray.size≤14
 simp [Lib.repeatL_length]
theorem zero_add1 (h:1≤n∧n≤1000000000):(⟨#[108,111,103,46]⟩:ByteArray).size+(padB n).size≤9223372036854775807:=by
 have:=(zeroB_size h).2
 show 4+(padB n).size≤_
 omega
theorem zero_add2 (h:1≤n∧n≤1000000000):(zeroB n).size+(itoaB n).size≤9223372036854775807:=by
 have:=(zeroB_size h).1;have:=itoaB_size h
 omega
theorem bytes_add (a b:List UInt8):(⟨a.toArray⟩:ByteArray)++⟨b.toArray⟩=⟨(a++b).toArray⟩:=by
 apply ByteArray.ext
 rw [ByteArray.data_append]
 simp
theorem zeroB_is (h:1≤n∧n≤1000000000):(⟨#[108,111,103,46]⟩:ByteArray)++padB n=zeroB n:=bytes_add _ _
theorem zeroB_name (h:1≤n∧n≤1000000000):zeroB n++itoaB n=nameOf n:=by
 unfold zeroB itoaB
 rw [bytes_add]
 have:=(name_list h.1 h.2).2
 apply ByteArray.ext
 rw [← Array.toList_inj]
 rw [← this]
 simp [itoaB]
 rfl
theorem n_format (hi : inI n) (ht : Lib.TabIs Tryz.prog w0 "internal/strconv.uint64pow10" .u64 Lib.pow10Tab) : Gives Tryz.prog w0 D 48 #[.int .i64 n, .int .i64 10] (.string (itoaB n)) := fun w hw _ => (Tryz.strconv_FormatInt_10 n hi.1 hi.2 w (var_later ht hw)).mono (by
 rintro e w' ⟨rfl,k,os,rfl⟩
 exact ⟨rfl,below_grow w k os⟩)
theorem n_repeat (h:1≤n∧n≤1000000000):Gives Tryz.prog w0 D 49 #[.string ⟨#[48]⟩,.int .i64 ((10 - (itoaB n).size:Nat):Int)] (.string (padB n)):=fun w _ _=>(Tryz.strings_Repeat ⟨#[48]⟩ (10 - (itoaB n).size) w (by omega) (by
 show 1 * (10 - (itoaB n).size)≤_
 omega)).mono (by
 rintro e w' ⟨rfl,hb⟩
 exact ⟨rfl,hb⟩)
theorem n_trim (s:ByteArray):Gives Tryz.prog w0 D 83 #[.string s,.string ⟨#[108,111,103,46]⟩] (.string (trimB s)):=fun w _ _=>(Tryz.strings_TrimPrefix s ⟨#[108,111,103,46]⟩ w).mono (by
 rintro e w' ⟨rfl,rfl⟩
 exact ⟨rfl,Below.refl _ _⟩)
theorem below_bytes (w:World) (e:TypeId) (t:ByteArray):Below w.heap.size w (Lib.bytesWorld w e t):=by
 unfold Lib.bytesWorld
 refine Lib.below_freeze ((Below.refl w.heap.size w).drew.alloc (by simp) _) (by simp) _
theorem parse_in {s:ByteArray} {v:Int} (h:Lib.parseIntB 64 s.data.toList = .ok v):inI v:=by
 unfold Lib.parseIntB at h
 split at h
 ·cases h
 ·simp only at h
  split at h
  ·cases h
  ·cases h
  ·rename_i u _
   split at h
   ·cases h
   ·rename_i h1
    split at h
    ·cases h
    ·rename_i h2
     simp only [Lib.NumEnd.ok.injEq] at h
     unfold inI
     rw [← h]
     split<;>rename_i h3<;>simp only [h3,not_true,not_false_iff,true_and,false_and] at h1 h2<;>omega
theorem trimB_size (s:ByteArray):(trimB s).size≤s.size:=by
 show (Lib.trimPrefix s.data.toList [108,111,103,46]).toArray.size≤s.data.size
 unfold Lib.trimPrefix
 split<;>simp
theorem n_parse_ok {s:ByteArray} {v:Int} (hs:s.size≤1000) (h:Lib.parseIntB 64 (trimB s).data.toList = .ok v):Gives Tryz.prog w0 D 82 #[.string (trimB s),.int .i64 10,.int .i64 64] (.tuple #[.int .i64 v,.nilIface]):=fun w _ _=>(Tryz.strconv_ParseInt_10_at64_ok (trimB s) (by
 have:=trimB_size s;omega) v h w).mono (by
 rintro e w' ⟨rfl,h | ⟨t,h⟩⟩<;>subst h
 ·exact ⟨rfl,Below.refl _ _⟩
 ·exact ⟨rfl,below_bytes _ _ _⟩)
theorem n_parse_bad {s : ByteArray} (hs : s.size ≤ 1000) (he : ∃ tp p, w0.var? Tryz.prog "strconv.ErrSyntax" = some #[.iface tp p]) (h : Lib.parseIntB 64 (trimB s).data.toList = Lib.NumEnd.syntax) : GivesM Tryz.prog w0 D 82 #[.string (trimB s), .int .i64 10, .int .i64 64] Nat (fun x => .tuple #[.int .i64 0, .iface 189 (.pointer (some ⟨x, 0, none⟩))]) (fun _ => []) := fun w hw _ => by
 obtain ⟨tp,p,hv⟩:=he
 refine (Tryz.strconv_ParseInt_10_at64_syntax_var (trimB s) (by have:=trimB_size s;omega) h tp p w (var_later hv hw)).mono ?_
 rintro e w' ⟨N,rfl,_,_,hb⟩
 exact ⟨N,rfl,hb,news_nil⟩
end
theorem v_name_yes (n : Int)  (w : World) (hi : inI n) (ht : Lib.TabIs Tryz.prog w "internal/strconv.uint64pow10" .u64 Lib.pow10Tab) (hr : 1 ≤ n ∧ n ≤ 1000000000) : Calls Tryz.prog 24 #[.int .i64 n] w fun e w' => e = .returned (.string (nameV n)) ∧ Below w.heap.size w w' :=
 calls_by (fn:=Tryz.f24) (r:=.string (nameV n)) (t:=.m false (.k (.m false (.c (.string (itoaB n)) (.e (.int .i64 ((10 - (itoaB n).size:Nat):Int)) (.c (.string (padB n)) (.x (.string (zeroB n)) (.x (.string (nameOf n)) .z)))))))) (X :=
 let k0:Value:=.string (⟨#[108,111,103,46]⟩);let k1:=((10 - (itoaB n).size:Nat):Int);let k2:Value:=.string (itoaB n);let k3:Value:=.string (zeroB n);let k4:Value:=.string (padB n);(decide (n < 1))=false∧(decide (n > 1000000000))=false∧Gives Tryz.prog w [] 48 #[.int .i64 n,.int .i64 10] k2∧(.int .i64 (IntKind.i64.wrap (10 - ((itoaB n).size:Int))):Value) = .int .i64 k1∧Gives Tryz.prog w [] 49 #[.string (⟨#[48]⟩),.int .i64 k1] k4∧Yields0 Tryz.prog w [] (do eqGuard BinOp.add 9 (.const k0) (.tmp 15) k0 k4;Go.binOp BinOp.add 9 k0 k4) k3∧Yields0 Tryz.prog w [] (do eqGuard BinOp.add 9 (.tmp 16) (.tmp 17) k3 k2;Go.binOp BinOp.add 9 k3 k2) (.string (nameOf n))∧((.string (nameOf n):Value) = .string (nameV n))) Tryz.func24 (by kernel_rfl)
 (⟨by simp only [dq];omega,⟨by simp only [dq];omega,⟨(n_format hi ht),⟨wrap_is (by have:=itoaB_size hr;omega) (by omega) (by omega),⟨(n_repeat hr),⟨(str_add (zeroB_is hr) (zero_add1 hr) _ _),⟨(str_add (zeroB_name hr) (zero_add2 hr) _ _),(by rw [nameV,if_pos hr])⟩⟩⟩⟩⟩⟩⟩)
theorem v_name_low (n:Int)  (w:World) (hb:n < 1) (hr:¬ (1≤n∧n≤1000000000)):Calls Tryz.prog 24 #[.int .i64 n] w fun e w'=>e = .returned (.string (nameV n))∧Below w.heap.size w w' :=
 calls_by (fn:=Tryz.f24) (r:=.string (nameV n)) (t:=.m true (.k .z)) (X :=
(decide (n < 1))=true∧((.string ByteArray.empty:Value) = .string (nameV n))) Tryz.func24 (by kernel_rfl)
 (⟨by simp only [dq];omega,(by rw [nameV,if_neg hr])⟩)
theorem v_name_high (n:Int)  (w:World) (hb:¬ n < 1∧1000000000 < n) (hr:¬ (1≤n∧n≤1000000000)):Calls Tryz.prog 24 #[.int .i64 n] w fun e w'=>e = .returned (.string (nameV n))∧Below w.heap.size w w' :=
 calls_by (fn:=Tryz.f24) (r:=.string (nameV n)) (t:=.m false (.k (.m true .z))) (X :=
(decide (n < 1))=false∧(decide (n > 1000000000))=true∧((.string ByteArray.empty:Value) = .string (nameV n))) Tryz.func24 (by kernel_rfl)
 (⟨by simp only [dq];omega,⟨by simp only [dq];omega,(by rw [nameV,if_neg hr])⟩⟩)
theorem v_name (n : Int) (w : World) (hi : inI n) (ht : Lib.TabIs Tryz.prog w "internal/strconv.uint64pow10" .u64 Lib.pow10Tab) : Calls Tryz.prog 24 #[.int .i64 n] w fun e w' => e = .returned (.string (nameV n)) ∧ Below w.heap.size w w' := by
 by_cases hr:1≤n∧n≤1000000000
 ·exact v_name_yes n w hi ht hr
 ·by_cases h1:n < 1
  ·exact v_name_low n w h1 hr
  ·exact v_name_high n w ⟨h1,by omega⟩ hr
section
variable {w0:World} {D:List Fact} {n:Int}
theorem n_name {v : Int} (hi : inI v) (ht : Lib.TabIs Tryz.prog w0 "internal/strconv.uint64pow10" .u64 Lib.pow10Tab) : Gives Tryz.prog w0 D 24 #[.int .i64 v] (.string (nameV v)) := fun w hw _ => v_name v w hi (var_later ht hw)
theorem parseM_dg:∀ (l:List Nat) (acc k:Nat),l.all digit=true→acc < 10 ^ k→k+l.length≤18→Lib.parseUintM (2 ^ 64 - 1) acc (l.map Nat.toUInt8) = .ok (l.foldl (fun a c=>a * 10+(c - 48)) acc)
 | [],acc,k,_,_,_=>rfl
 |c :: r,acc,k,hd,ha,hk=>by
  simp only [List.all_cons,Bool.and_eq_true] at hd
  have hc:48≤c∧c≤57:=by have:=hd.1;simp [digit] at this;exact this
  have h18:(10:Nat) ^ (k+1)≤10 ^ 18:=Nat.pow_le_pow_right (by decide) (by simp only [List.length_cons] at hk;omega)
  have hp:(10:Nat) ^ (k+1)=10 ^ k * 10:=Nat.pow_succ 10 k
  have hcn:(Nat.toUInt8 c).toNat=c:=by simp [Nat.toUInt8,UInt8.toNat_ofNat];omega
  rw [List.map_cons,Lib.parseUintM,hcn,if_pos hc,if_neg (by omega),if_neg (by omega),parseM_dg r (acc * 10+(c - 48)) (k+1) hd.2 (by omega) (by simp only [List.length_cons] at hk;omega)]
  rfl
theorem trim_name {m:Int} : (trimB (nameOf m)).data.toList=(dg 10 m.toNat).map Nat.toUInt8:=by
 show (Lib.trimPrefix (nameOf m).data.toList [108,111,103,46]).toArray.toList=_
 unfold Lib.trimPrefix Lib.hasPrefix nameOf bytes nameL
 simp [Nat.toUInt8]
theorem parse_dg {l:List Nat} {u:Nat} (hl:l≠[]) (hd:l.all digit=true) (h:Lib.parseUintM (2 ^ 64 - 1) 0 (l.map Nat.toUInt8) = .ok u) (hu:u≤10000000000):Lib.parseIntB 64 (l.map Nat.toUInt8) = .ok (u:Int):=by
 cases l with
 |nil=>exact absurd rfl hl
 |cons c r =>
  have hc:48≤c∧c≤57:=by
   simp only [List.all_cons,Bool.and_eq_true] at hd
   have:=hd.1;simp [digit] at this;exact this
  have hcn:(Nat.toUInt8 c).toNat=c:=by simp [Nat.toUInt8,UInt8.toNat_ofNat];omega
  rw [List.map_cons] at h ⊢
  unfold Lib.parseIntB Lib.parseUintB
  simp only [hcn]
  rw [if_neg (by omega:¬ (c=43∨c=45)),if_neg (by simp),h]
  simp only
  rw [if_neg (by omega),if_neg (by omega),if_neg (by omega)]
theorem parse_name {m:Int} (h0:1≤m) (h1:m≤1000000000):Lib.parseIntB 64 (trimB (nameOf m)).data.toList = .ok m:=by
 rw [trim_name]
 have hv:(dg 10 m.toNat).foldl (fun a c=>a * 10+(c - 48)) 0=m.toNat:=by
  have:=dg_value 10 m.toNat
  rw [Nat.mod_eq_of_lt (by omega)] at this
  exact this
 have h:=parseM_dg (dg 10 m.toNat) 0 0 (dg_digit _ _) (by simp) (by simp [dg_len])
 rw [hv] at h
 have:=parse_dg (by intro e;have:=dg_len 10 m.toNat;rw [e] at this;simp at this) (dg_digit _ _) h (by omega)
 rw [this]
 congr 1;omega
theorem numOf_nonneg (s:ByteArray):0≤numOf s:=by unfold numOf;omega
theorem num_bad {s:ByteArray} (hp:Lib.parseIntB 64 (trimB s).data.toList=Lib.NumEnd.syntax):numOf s=0:=by
 by_cases h:0 < numOf s
 ·obtain ⟨h1,h2⟩:=numOf_is h
  rw [h1,parse_name (by omega) h2] at hp
  cases hp
 ·have:=numOf_nonneg s;omega
theorem num_other {s:ByteArray} {v:Int} (hp:Lib.parseIntB 64 (trimB s).data.toList = .ok v) (hn:¬ nameV v=s):numOf s=0:=by
 by_cases h:0 < numOf s
 ·obtain ⟨h1,h2⟩:=numOf_is h
  rw [h1,parse_name (by omega) h2] at hp
  simp only [Lib.NumEnd.ok.injEq] at hp
  exact absurd (by rw [← hp,nameV,if_pos ⟨by omega,h2⟩];exact h1.symm) hn
 ·have:=numOf_nonneg s;omega
theorem num_this {s:ByteArray} {v:Int} (hp:Lib.parseIntB 64 (trimB s).data.toList = .ok v) (hn:nameV v=s):numOf s=v:=by
 unfold nameV at hn
 split at hn
 ·rename_i h
  rw [← hn,numOf_name (by omega) h.2]
 ·subst hn
  have:(trimB ByteArray.empty).data.toList=[]:=rfl
  rw [this] at hp
  cases hp
end
theorem v_number_ok (s : ByteArray) (v : Int)  (w : World) (ht : Lib.TabIs Tryz.prog w "internal/strconv.uint64pow10" .u64 Lib.pow10Tab) (hs : s.size ≤ 1000) (hp : Lib.parseIntB 64 (trimB s).data.toList = .ok v) : Calls Tryz.prog 45 #[.string s] w fun e w' => e = .returned (.int .i64 (numOf s)) ∧ Below w.heap.size w w' :=
 calls_by (fn:=Tryz.f45) (r:=.int .i64 (numOf s)) (t:=.c (.string (trimB s)) (.c (.tuple #[.int .i64 v,.nilIface]) (.x (.bool false) (.k (.c (.string (nameV v)) (.xs (!decide ((nameV v)=s)) .z .z)))))) (X :=
 let k0 := !decide ((nameV v)=s);let k1:Value:=.string (nameV v);Gives Tryz.prog w [] 83 #[.string s,.string (⟨#[108,111,103,46]⟩)] (.string (trimB s))∧Gives Tryz.prog w [] 82 #[.string (trimB s),.int .i64 10,.int .i64 64] (.tuple #[.int .i64 v,.nilIface])∧Yields0 Tryz.prog w [] (do eqGuard BinOp.neq 118 (.tmp 11) (.const .nilIface) .nilIface .nilIface;Go.binOp BinOp.neq 118 .nilIface .nilIface) (.bool false)∧Gives Tryz.prog w [] 24 #[.int .i64 v] k1∧Yields0 Tryz.prog w [] (do eqGuard BinOp.neq 9 (.tmp 15) (.tmp 16) k1 (.string s);Go.binOp BinOp.neq 9 k1 (.string s)) (.bool k0)∧(k0=true→((.int .i64 0:Value) = .int .i64 (numOf s)))∧(k0=false→((.int .i64 v:Value) = .int .i64 (numOf s)))) Tryz.func45 (by kernel_rfl)
 (⟨(n_trim s),⟨(n_parse_ok hs hp),⟨(nil_neq Tryz.underlying118),⟨(n_name (parse_in hp) ht),⟨(str_neq _ _),fun h1=>(by rw [num_other hp (by simpa using h1)]),
 fun h1=>(by rw [num_this hp (by simpa using h1)])⟩⟩⟩⟩⟩)
theorem v_number_bad (s : ByteArray)  (w : World) (he : ∃ tp p, w.var? Tryz.prog "strconv.ErrSyntax" = some #[.iface tp p]) (hs : s.size ≤ 1000) (hp : Lib.parseIntB 64 (trimB s).data.toList = Lib.NumEnd.syntax) : Calls Tryz.prog 45 #[.string s] w fun e w' => e = .returned (.int .i64 (numOf s)) ∧ Below w.heap.size w w' :=
 calls_by (fn:=Tryz.f45) (r:=.int .i64 (numOf s)) (t:=.c (.string (trimB s)) (.cm (Nat) (fun x=>.tuple #[.int .i64 0,.iface 189 (.pointer (some ⟨x,0,none⟩))]) (fun x=>[]) (fun x1=>.x (.bool true) (.k .z)))) (X :=
 Gives Tryz.prog w [] 83 #[.string s,.string (⟨#[108,111,103,46]⟩)] (.string (trimB s))∧GivesM Tryz.prog w [] 82 #[.string (trimB s),.int .i64 10,.int .i64 64] (Nat) (fun x=>.tuple #[.int .i64 0,.iface 189 (.pointer (some ⟨x,0,none⟩))]) (fun x=>[])∧∀ x1:Nat,let k0:Value:=.pointer (some ⟨x1,0,none⟩);Yields0 Tryz.prog w [] (do eqGuard BinOp.neq 118 (.tmp 11) (.const .nilIface) (.iface 189 k0) .nilIface;Go.binOp BinOp.neq 118 (.iface 189 k0) .nilIface) (.bool true)∧((.int .i64 0:Value) = .int .i64 (numOf s))) Tryz.func45 (by kernel_rfl)
 (⟨(n_trim s),⟨(n_parse_bad hs he hp),fun x1=>⟨(iface_neq Tryz.underlying118 _ _),(by rw [num_bad hp])⟩⟩⟩)
theorem parseM_small:∀ (l:List UInt8) (acc k:Nat),acc < 10 ^ k→k+l.length≤18→Lib.parseUintM (2 ^ 64 - 1) acc l=Lib.NumEnd.syntax∨∃ u,u < 10 ^ 18∧Lib.parseUintM (2 ^ 64 - 1) acc l = .ok u
 | [],acc,k,ha,hk=>.inr ⟨acc,Nat.lt_of_lt_of_le ha (Nat.pow_le_pow_right (by decide) (by simpa using hk)),rfl⟩
 |c :: r,acc,k,ha,hk=>by
  rw [Lib.parseUintM]
  by_cases hc:48≤c.toNat∧c.toNat≤57
  ·have h18:(10:Nat) ^ (k+1)≤10 ^ 18:=Nat.pow_le_pow_right (by decide) (by simp only [List.length_cons] at hk;omega)
   have hp:(10:Nat) ^ (k+1)=10 ^ k * 10:=Nat.pow_succ 10 k
   rw [if_pos hc,if_neg (by omega),if_neg (by omega)]
   exact parseM_small r _ (k+1) (by omega) (by simp only [List.length_cons] at hk;omega)
  ·rw [if_neg hc];exact .inl rfl
theorem parse_small {l:List UInt8} (h:l.length≤18):Lib.parseIntB 64 l ≠ .range:=by
 cases l with
 |nil=>intro e;cases e
 |cons c r =>
  unfold Lib.parseIntB Lib.parseUintB
  simp only
  have hk:∀ m:List UInt8,m.length≤18→(if m=[] then Lib.NumEnd.syntax else Lib.parseUintM (2 ^ 64 - 1) 0 m)=Lib.NumEnd.syntax∨∃ u,u < 10 ^ 18∧(if m=[] then Lib.NumEnd.syntax else Lib.parseUintM (2 ^ 64 - 1) 0 m) = .ok u:=fun m hm=>by
   by_cases e:m=[]
   ·rw [if_pos e];exact .inl rfl
   ·rw [if_neg e];exact parseM_small m 0 0 (by simp) (by omega)
  have hm:=hk (if c.toNat=43∨c.toNat=45 then r else c :: r) (by split<;>simp only [List.length_cons] at h ⊢<;>omega)
  rcases hm with e | ⟨u,hu,e⟩
  ·rw [e];intro h;cases h
  ·rw [e]
   simp only
   rw [if_neg (by omega),if_neg (by omega)]
   intro h;cases h
theorem named_parse {s:ByteArray} (h:named s=true):s.size≤1000∧Lib.parseIntB 64 (trimB s).data.toList ≠ .range:=by
 have h1:=named_size h
 have h2:=trimB_size s
 exact ⟨by omega,parse_small (by rw [Array.length_toList];exact Nat.le_trans h2 (by omega))⟩
theorem v_number (s : ByteArray) (w : World) (ht : Lib.TabIs Tryz.prog w "internal/strconv.uint64pow10" .u64 Lib.pow10Tab) (he : ∃ tp p, w.var? Tryz.prog "strconv.ErrSyntax" = some #[.iface tp p]) (hs : s.size ≤ 1000) (hn : Lib.parseIntB 64 (trimB s).data.toList ≠ .range) : Calls Tryz.prog 45 #[.string s] w fun e w' => e = .returned (.int .i64 (numOf s)) ∧ Below w.heap.size w w' := by
 cases hp:Lib.parseIntB 64 (trimB s).data.toList with
 |ok v=>exact v_number_ok s v w ht hs hp
 |range=>exact absurd hp hn
 | _=>exact v_number_bad s w he hs hp
end Go.Proofs.YtalhdalinpdanaaGreatDoor.wal
