/-
  WalN
-/
import Derived.Test.YtalhdalinpdanaaGreatDoorShelf
import Derived.Test.YtalhdalinpdanaaGreatDoorMwl25
set_option linter.unusedVariables false
set_option linter.unusedSimpArgs false
namespace Go.Proofs.YtalhdalinpdanaaGreatDoor.wal
open Go.RowKit Go.Proofs.YtalhdalinpdanaaGreatDoor Go.Proofs.YtalhdalinpdanaaGreatDoor.frame Go.Proofs.YtalhdalinpdanaaGreatDoor.disk
set_option maxRecDepth 20000
theorem dec_len:∀ (k n:Nat),n < 10 ^ (k+1)→(Lib.decDigits n).length≤k+1:=by
 intro k
 induction k with
 |zero =>
  intro n h
  rw [Lib.decDigits,dif_pos (by simpa using h)];simp
 |succ k ih =>
  intro n h
  rw [Lib.decDigits]
  split
  ·simp
  ·rw [List.length_append]
   have:=ih (n / 10) (by rw [Nat.pow_succ] at h;omega)
   simp only [List.length_singleton];omega
theorem rep_zero (c:Nat):Lib.repeatL [48] c=List.replicate c (48:UInt8):=by
 have:=Lib.repeatL_replicate (48:UInt8) 1 c
 simpa using this
theorem dg_zero (k:Nat):(dg k 0).map Nat.toUInt8=List.replicate k (48:UInt8):=by
 induction k with
 |zero=>rfl
 |succ k ih=>rw [dg,List.map_append,Nat.zero_div,ih,List.replicate_succ'];rfl
theorem dec_dg:∀ (k n:Nat),n < 10 ^ (k+1)→List.replicate (k+1 - (Lib.decDigits n).length) (48:UInt8)++Lib.decDigits n=(dg (k+1) n).map Nat.toUInt8:=by
 intro k
 induction k with
 |zero =>
  intro n h
  have h' : n < 10:=by simpa using h
  rw [Lib.decDigits,dif_pos h']
  simp [dg,Nat.mod_eq_of_lt h',Nat.toUInt8]
 |succ k ih =>
  intro n h
  have hk:n / 10 < 10 ^ (k+1):=by rw [Nat.pow_succ] at h;omega
  rw [dg,List.map_append]
  by_cases h9:n < 10
  ·rw [Lib.decDigits,dif_pos h9,show n / 10=0 by omega,dg_zero,Nat.mod_eq_of_lt h9]
   simp [Nat.toUInt8]
  ·rw [Lib.decDigits,dif_neg h9,← List.append_assoc,List.length_append,List.length_singleton,show k+1+1 - ((Lib.decDigits (n / 10)).length+1)=k+1 - (Lib.decDigits (n / 10)).length by omega,ih (n / 10) hk]
   rfl
theorem name_list {n:Int} (h0:1≤n) (h1:n≤1000000000):(Lib.itoa n).length≤10∧[108,111,103,46]++Lib.repeatL [48] (10 - (Lib.itoa n).length)++Lib.itoa n=(nameOf n).data.toList:=by
 have hi:Lib.itoa n=Lib.decDigits n.toNat:=by unfold Lib.itoa;rw [if_neg (by omega)]
 have hl:=dec_len 9 n.toNat (by omega)
 rw [hi,rep_zero]
 refine ⟨hl,?_⟩
 rw [List.append_assoc,dec_dg 9 n.toNat (by omega)]
 unfold nameOf bytes nameL
 simp [Nat.toUInt8]
def nameV (n:Int):ByteArray:=if 1≤n∧n≤1000000000 then nameOf n else ByteArray.empty
theorem nameV_size (n:Int):(nameV n).size≤14:=by
 unfold nameV
 split
 ·show (nameOf n).data.size≤14
  unfold nameOf bytes
  simp [nameL_len]
 ·simp
end Go.Proofs.YtalhdalinpdanaaGreatDoor.wal
