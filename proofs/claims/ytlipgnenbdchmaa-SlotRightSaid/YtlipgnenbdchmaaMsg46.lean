/-
  SlotS
-/
import Derived.Test.YtlipgnenbdchmaaMsg45
import Derived.Test.YtlipgnenbdchmaaMsg40
set_option linter.unusedVariables false
set_option linter.unusedSimpArgs false
namespace Go.Proofs.Ytlipgnenbdchmaa.slot
set_option maxRecDepth 20000
open Go.RowKit Go.Proofs.Ytlipgnenbdchmaa Go.Proofs.Ytlipgnenbdchmaa.disk
open Go.Proofs.Ytlipgnenbdchmaa.wal (Dv dc InD RetD RetB keeps_d rdRaw RawF rfc rz fz)
open Go.Proofs.Ytlipgnenbdchmaa.frame (be be_len be_lt u le4 num num_lt seg seg_lt seg_len sg)
abbrev z8:List Nat:=[0,0,0,0,0,0,0,0]
def e16 (s:Sl) (y:Nat):List Nat:=putN z8 0 s.g y++putN z8 0 s.l y
section
variable {s:Sl} {y:Nat}
theorem e16_zero (s:Sl):(List.replicate 16 0:List Int)=toI (e16 s 0):=by
 unfold e16
 rw [putN_zero (by decide),putN_zero (by decide)];rfl
theorem e16_full:e16 s 8=body s:=by
 unfold e16 body
 rw [putN_full,putN_full]
 unfold putAt
 simp
theorem toI_set (l:List Nat) (i v:Nat):(toI l).set i (v:Int)=toI (l.set i v):=by unfold toI;rw [List.map_set]
theorem byte_at (n:Nat) (h:y < 8):(be 8 n).getD (7 - y) 0=n / 256 ^ y % 256:=by
 rw [be_getD 8 n (7 - y) (by omega),show 8 - 1 - (7 - y)=y by omega]
theorem e16_step (h:y < 8):((toI (e16 s y)).set (7 - y) ((u s.g / 256 ^ y % 256:Nat):Int)).set (15 - y) ((u s.l / 256 ^ y % 256:Nat):Int)=toI (e16 s (y+1)):=by
 rw [toI_set,toI_set]
 congr 1
 unfold e16
 have h8:(putN z8 0 s.g y).length=8:=putN_len (by decide) (by omega)
 have h9:(putN z8 0 s.g (y+1)).length=8:=putN_len (by decide) (by omega)
 have s1:=putN_step (l:=z8) (off:=0) (n:=s.g) (by decide) h
 have s2:=putN_step (l:=z8) (off:=0) (n:=s.l) (by decide) h
 rw [Nat.zero_add,byte_at _ h] at s1 s2
 rw [List.set_append_left _ _ (by omega),s1,List.set_append_right _ _ (by omega),h9,show 15 - y - 8=7 - y by omega,s2]
theorem pow_next (n y:Nat):n / 256 ^ y / 256=n / 256 ^ (y+1):=by rw [Nat.div_div_eq_div_mul,Nat.pow_succ]
theorem u_right {x:Int} (h:0≤x∧x≤1000000000):x=((u x / 256 ^ 0:Nat):Int):=by
 unfold u;rw [Nat.pow_zero,Nat.div_one];omega
theorem u_small {x:Int} (h:0≤x∧x≤1000000000) (y:Nat):u x / 256 ^ y≤1000000000:=by
 have:u x≤1000000000:=by unfold u;omega
 exact Nat.le_trans (Nat.div_le_self _ _) this
theorem more_body (s:Sl):crc.more 0 (body s)≤4294967295:=by
 have:=crc.more_lt (body s) (s:=0) (by decide) (fun b hb=>Nat.lt_trans (body_lt s b hb) (by decide))
 omega
theorem more_le {M:List Nat} (hb:∀ b ∈ M,b < 256):crc.more 0 M≤4294967295:=by
 have:=crc.more_lt M (s:=0) (by decide) (fun b h=>Nat.lt_trans (hb b h) (by decide))
 omega
theorem le4_getD {C:Nat} (h:y < 4):(le4 C)[y]?=some (C / 256 ^ y % 256):=by
 rcases (show y=0∨y=1∨y=2∨y=3 by omega) with rfl | rfl | rfl | rfl<;>simp [le4]
theorem sum_snoc {B:List Nat} {C:Nat} (h:y < 4):toI (B++(le4 C).take y)++[((C / 256 ^ y % 256:Nat):Int)]=toI (B++(le4 C).take (y+1)):=by
 rw [List.take_add_one,le4_getD h,← List.append_assoc,toI_append (B++(le4 C).take y)];rfl
theorem sum_len {B:List Nat} {C:Nat} (h:y < 4):(toI (B++(le4 C).take y)).length+1=(toI (B++(le4 C).take (y+1))).length:=by
 rw [← sum_snoc h,List.length_append];rfl
theorem sum_zero (B:List Nat) (C:Nat):toI B=toI (B++(le4 C).take 0):=by simp
theorem sum_done (h:y=4):toI (body s++(le4 (crc.more 0 (body s))).take y)=toI (slot.enc s):=by subst h;rfl
end
section
variable {P:Program} {w0:World} {D:List Fact} {T:TypeId} {a:Nat}
theorem rem_k {k:IntKind} {m:Nat} (hm:¬ ((m:Int)=0)) (ox oy:Operand):Yields0 P w0 D (do eqGuard .rem T ox oy (.int k (a:Int)) (.int k (m:Int));Go.binOp .rem T (.int k (a:Int)) (.int k (m:Int))) (.int k ((a % m:Nat):Int)):=fun w _ _=>by
 have e:Int.tmod (a:Int) (m:Int)=((a % m:Nat):Int):=by rw [Int.ofNat_tmod]
 have e1:eqGuard .rem T ox oy (.int k (a:Int)) (.int k (m:Int))=pure ():=rfl
 have e2:Go.binOp .rem T (.int k (a:Int)) (.int k (m:Int))=Op.intDiv .rem k (a:Int) (m:Int):=by simp [Go.binOp]
 rw [e1,Sem.run_bind,Sem.run_pure,Result.andThen_ok,e2]
 unfold Op.intDiv
 rw [if_neg hm]
 simp only [e]
 rfl
theorem quo_k {k:IntKind} {m:Nat} (hm:¬ ((m:Int)=0)) (hw:k.wrap ((a / m:Nat):Int)=((a / m:Nat):Int)) (ox oy:Operand):Yields0 P w0 D (do eqGuard .quo T ox oy (.int k (a:Int)) (.int k (m:Int));Go.binOp .quo T (.int k (a:Int)) (.int k (m:Int))) (.int k ((a / m:Nat):Int)):=fun w _ _=>by
 have e:Int.tdiv (a:Int) (m:Int)=((a / m:Nat):Int):=by rw [Int.ofNat_tdiv]
 have e1:eqGuard .quo T ox oy (.int k (a:Int)) (.int k (m:Int))=pure ():=rfl
 have e2:Go.binOp .quo T (.int k (a:Int)) (.int k (m:Int))=Op.intDiv .quo k (a:Int) (m:Int):=by simp [Go.binOp]
 rw [e1,Sem.run_bind,Sem.run_pure,Result.andThen_ok,e2]
 unfold Op.intDiv
 rw [if_neg hm]
 simp only [e,hw]
 rfl
theorem conv_low {src dst:TypeId} {ds:TypeDesc} {k:IntKind} (hs:P.underlying src=some ds) (hd:P.underlying dst=some (.int .u8)) (h:a < 256):Yields0 P w0 D (convert src dst (.int k (a:Int))) (.int .u8 (a:Int)):=fun w _ _=>by
 have hk' : P.intKind dst = .u8:=by simp [Program.intKind,hd]
 have e:((a:Int)) % 256=(a:Int):=by omega
 rw [run_convert_int w src dst k _ (by rw [hs];rfl) (by rw [hk'];exact hd),hk',IntKind.wrap_u8,e]
theorem wrap32 {n:Nat} (h:n≤4294967295):IntKind.u32.wrap (n:Int)=(n:Int):=by
 rw [IntKind.wrap_u32];omega
theorem wrap64n {n:Nat} (h:n≤9223372036854775807):IntKind.i64.wrap (n:Int)=(n:Int):=by
 rw [IntKind.wrap_i64];omega
theorem wrap64u {n:Nat} (h:n < 18446744073709551616):IntKind.u64.wrap (n:Int)=(n:Int):=by
 rw [IntKind.wrap_u64];omega
theorem conv_u64 {src dst:TypeId} {ds:TypeDesc} {k:IntKind} (hs:P.underlying src=some ds) (hd:P.underlying dst=some (.int .u64)) (h:a < 18446744073709551616):Yields0 P w0 D (convert src dst (.int k (a:Int))) (.int .u64 (a:Int)):=fun w _ _=>by
 have hk' : P.intKind dst = .u64:=by simp [Program.intKind,hd]
 rw [run_convert_int w src dst k _ (by rw [hs];rfl) (by rw [hk'];exact hd),hk',wrap64u h]
theorem conv_sg {src dst:TypeId} {ds:TypeDesc} {k:IntKind} (hs:P.underlying src=some ds) (hd:P.underlying dst=some (.int .i64)) (h:a < 18446744073709551616):Yields0 P w0 D (convert src dst (.int k (a:Int))) (.int .i64 (sg a)):=fun w _ _=>by
 have hk' : P.intKind dst = .i64:=by simp [Program.intKind,hd]
 have e:IntKind.i64.wrap (a:Int)=sg a:=by
  rw [IntKind.wrap_i64]
  unfold sg
  split<;>omega
 rw [run_convert_int w src dst k _ (by rw [hs];rfl) (by rw [hk'];exact hd),hk',e]
end
theorem bys_of {w:World} {S:Nat→Prop} {A:Option Addr} {L:List Nat} (h:Elems (rdInt .u8) 1 w S A (toI L)):BysIn w S A L :=
 ⟨fun x hx=>by
  obtain ⟨j,hj,rfl⟩:=List.getElem_of_mem hx
  obtain ⟨b,off,e,hS,hc⟩:=h (by omega)
  obtain ⟨cs,hl,hcell,hcs,hwf⟩:=hc j (toI L)[j] (List.getElem?_eq_getElem hj)
  exact hwf,fun hn=>by
  obtain ⟨b,off,e,hS,hc⟩:=h hn
  refine ⟨b,off,e,hS,fun j hj=>?_⟩
  obtain ⟨cs,hl,hcell,hcs,hwf⟩:=hc j ((toI L).getD j 0) (at_getD hj)
  have:=hcell 0 _ (by rw [hcs];rfl)
  rw [Nat.mul_one,Nat.add_zero] at this
  exact this⟩
section
variable {w0:World} {D:List Fact} {A:Option Addr} {c n:Nat} {L:List Nat}
theorem own_bys {j:Nat} (h:D[j]?=some (ownF (rdInt .u8) 1 5 A n c (toI L))):∀ w,Below w0.heap.size w0 w→All D w→Bys w w.heap.size A L:=fun w _ ha=>by
 have hE:=(row_at h w ha).elems (S':=Lt w.heap.size) (keeps_int _) (by decide) (fun _ h=>h.elim) (fun _ _ h=>h)
 exact BysIn.bys (bys_of hE) (fun _ h=>h)
theorem g_rsum {M:List Nat} {m:Nat} (e:L=M) (hm:m=M.length) (hx:∀ w,Below w0.heap.size w0 w→All D w→Bys w w.heap.size A L) (hn:M.length≤100000):Gives Try.prog w0 D 24 #[.slice A m c] (.int .u32 ((crc.more 0 M:Nat):Int)):=fun w hw ha=>by
 subst e hm
 refine (crc.rsum A L.length c _ L w (hx w hw ha) rfl (by omega)).mono ?_
 rintro e w' ⟨rfl,rfl⟩
 exact ⟨rfl,Below.refl _ _⟩
theorem own_str {src e dst:TypeId} {j:Nat} {P:Program} (hs:P.underlying src=some (.slice e)) (he:P.underlying e=some (.int .u8)) (hd:P.underlying dst=some .string) (h:D[j]?=some (ownF (rdInt .u8) 1 5 A (toI L).length c (toI L))) :
  Yields0 P w0 D (convert src dst (.slice A (toI L).length c)) (.string (strB L)):=fun w hw ha=>run_bys_string (own_bys (w0:=w0) h w hw ha) (by simp [toI]) src _ dst hs he hd
end
def bestF (fs:List FileD):Sl:=fs.foldl (fun o F=>pickS F.data F.name o) sz
theorem pick_nil (nm:ByteArray) (o:Sl):pickS [] nm o=o:=pick_no1 (by rw [dec_short (by decide)];exact fun h=>absurd h (show ¬ (2:Int)=0 by decide))
theorem held_cons {F:FileD} {r:List FileD} {nm:ByteArray} : held (F :: r) nm=if F.name=nm then F.data else held r nm:=by
 unfold held disk.look
 rw [List.find?_cons]
 by_cases h:F.name=nm
 ·rw [if_pos h,same_iff.2 h]
 ·rw [if_neg h,same_no.2 h]
theorem held_gone {r:List FileD} {nm:ByteArray} (h:∀ g ∈ r,g.name≠nm):held r nm=[]:=held_none (look_no h)
theorem even_lt:nlt nEven nOdd:=by unfold nlt;decide +kernel
theorem best_from:∀ (fs:List FileD) (o:Sl),Row fs→fs.foldl (fun o F=>pickS F.data F.name o) o=pickS (held fs nOdd) nOdd (pickS (held fs nEven) nEven o)
 | [],o,_=>by
  show o=_
  rw [show held [] nOdd=[] from rfl,show held [] nEven=[] from rfl,pick_nil,pick_nil]
 | F :: r,o,h=>by
  obtain ⟨h1,h2⟩:=List.pairwise_cons.1 h
  rw [List.foldl_cons,best_from r _ h2,held_cons,held_cons]
  by_cases he:F.name=nEven
  ·rw [if_neg (by rw [he];exact even_odd),if_pos he,he]
   rw [held_gone (nm:=nEven) (fun g hg e=>nlt_irrefl nEven (by have:=h1 g hg;rw [e,he] at this;exact this)),pick_nil]
  ·rw [if_neg he]
   by_cases ho:F.name=nOdd
   ·rw [if_pos ho,ho]
    rw [held_gone (nm:=nOdd) (fun g hg e=>nlt_irrefl nOdd (by have:=h1 g hg;rw [e,ho] at this;exact this)),held_gone (nm:=nEven) (fun g hg e=>nlt_asymm even_lt (by have:=h1 g hg;rw [e,ho] at this;exact this)),pick_nil,pick_nil,pick_nil]
   ·rw [if_neg ho]
    have:pickS F.data F.name o=o:=pick_no2 (fun e=>by
     rcases nameV_two (dec F.data).1.g with e2 | e2
     ·exact he (e.symm.trans e2)
     ·exact ho (e.symm.trans e2))
    rw [this]
theorem best_val {fs:List FileD} (h:Row fs):bestF fs=pickS (held fs nOdd) nOdd (pickS (held fs nEven) nEven sz):=best_from fs sz h
theorem best_step {fs:List FileD} {k:Nat} (h:k < fs.length):bestF (fs.take (k+1))=pickS (fs.getD k fz).data (fs.getD k fz).name (bestF (fs.take k)):=by
 unfold bestF
 rw [List.take_add_one,List.getElem?_eq_getElem h,List.foldl_append,List.getD_eq_getElem?_getD,List.getElem?_eq_getElem h]
 rfl
theorem readR_no {t:DiskD} (h:rightB t=false):readS t=(sz,1):=by
 have e:(readD t nEven).2=1:=by unfold readD firstE;rw [h];rfl
 rw [rs_err1 (.inl e),e]
theorem readR_down {t:DiskD} (h:rightB t=true) (h2:t.down=true):readS t=(sz,9):=by
 have e:(readD t nEven).2=9:=by unfold readD;rw [first_down h h2];rfl
 rw [rs_err1 (.inr e),e]
theorem readR_none {t:DiskD} (h:rightB t=true) (h2:t.down=false) (h3:(bestF t.files).g=0):readS t=(bestF t.files,7):=by
 have hb:=best_val (right_files h).2.2.1
 obtain ⟨v,hv⟩:∃ v,valF t.files=v:=⟨_,rfl⟩
 rw [reads_up h h2]
 have hv2:valF t.files=(sz,7):=by unfold valF valR;rw [← hb,if_pos h3]
 rw [hv2]
 rcases val_cases hv2 with ⟨_,_,e1,e2⟩ | ⟨e1,_⟩
 ·rw [hb,e1,e2]
 ·exact absurd e1 (by decide)
theorem readR_yes {t:DiskD} (h:rightB t=true) (h2:t.down=false) (h3:¬ (bestF t.files).g=0):readS t=(bestF t.files,0):=by
 rw [reads_up h h2]
 unfold valF valR
 rw [← best_val (right_files h).2.2.1,if_neg h3]
section
variable {t:DiskD} {s:Sl}
theorem reads_err:(readS t).2=1 ↔ rightB t=false:=by
 constructor
 ·intro h
  cases hr:rightB t with
  |false=>rfl
  |true =>
   exfalso
   cases hd:t.down with
   |true=>rw [readR_down hr hd] at h;exact absurd h (show ¬ (9:Int)=1 by decide)
   |false =>
    rw [reads_up hr hd] at h
    rcases val_cases (show valF t.files=((valF t.files).1,(valF t.files).2) from rfl) with ⟨_,e,_⟩ | ⟨_,e,_⟩<;>rw [e] at h<;>exact absurd h (by decide)
 ·intro h;rw [readR_no h]
theorem wR_arg (h:(readS t).2=1∨slot.right s=false):writeS t s=(t,1):=by
 have ha:againstS t s=1:=ag_1 (h.imp reads_err.1 id)
 rw [wr_no (by rw [ha];decide),ha]
theorem wR_right (h:¬ (readS t).2=1):rightB t=true:=by
 cases e:rightB t with
 |true=>rfl
 |false=>exact absurd (reads_err.2 e) h
theorem wR_down (h:¬ (readS t).2=1) (h2:slot.right s=true) (h3:(readS t).2=9):writeS t s=(t,9):=by
 have ha:againstS t s=9:=by rw [ag_9 (wR_right h) h2 h3,h3]
 rw [wr_no (by rw [ha];decide),ha]
theorem wR_state (h:¬ (readS t).2=1) (h2:slot.right s=true) (h3:¬ (readS t).2=9) (h4:¬ (readS t).1.g+1=s.g):writeS t s=(t,8):=by
 have ha:againstS t s=8:=ag_8 (wR_right h) h2 h3 (fun e=>h4 e.symm)
 rw [wr_no (by rw [ha];decide),ha]
theorem wR_go (h:¬ (readS t).2=1) (h2:slot.right s=true) (h3:¬ (readS t).2=9) (h4:(readS t).1.g+1=s.g):writeS t s=stepsD t (nameV s.g) (slot.enc s):=wr_yes (ag_0 (wR_right h) h2 h3 h4.symm)
theorem wR_up (h:¬ (readS t).2=1) (h3:¬ (readS t).2=9):t.down=false:=by
 cases e:t.down with
 |false=>rfl
 |true=>exact absurd (by rw [readR_down (wR_right h) e]) h3
theorem empty_no {nm:ByteArray} (hr:rightB t=true) (hd:t.down=false) (hn:named nm=true) (h:findI t.files nm < 0):emptyD t nm=(t,0):=by
 have hl:disk.look nm t.files=none:=by
  rcases findI_look nm t.files with ⟨_,e⟩ | ⟨k,f,e,_⟩
  ·exact e
  ·omega
 have e0:firstE t nm nm=0:=by rw [first_up hr hd,hn];rfl
 have e1:cutE t.files nm 0=7:=by unfold cutE;rw [if_pos hl]
 have e2:cutD t nm 0=(t,7):=by unfold cutD opD;rw [e0,e1,if_neg (by decide),if_pos (by decide)]
 rw [em_none (by rw [e2]),e2]
theorem empty_yes {nm:ByteArray} (hr:rightB t=true) (hd:t.down=false) (hn:named nm=true) (h:¬ findI t.files nm < 0):emptyD t nm=cutD t nm 0:=by
 have hl:¬ disk.look nm t.files=none:=by
  rcases findI_look nm t.files with ⟨e,_⟩ | ⟨k,f,_,_,e⟩
  ·omega
  ·rw [e];simp
 have e0:firstE t nm nm=0:=by rw [first_up hr hd,hn];rfl
 have e1:cutE t.files nm 0=0:=by unfold cutE;rw [if_neg hl,if_neg (by omega)]
 have e2:¬ (cutD t nm 0).2=7:=by
  unfold cutD opD
  rw [e0,e1,if_neg (by decide),if_neg (by decide)]
  split
  ·exact n97
  ·exact n07
 exact em_else e2
end
end Go.Proofs.Ytlipgnenbdchmaa.slot
