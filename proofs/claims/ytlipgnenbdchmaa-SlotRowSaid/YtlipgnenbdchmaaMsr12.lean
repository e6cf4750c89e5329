/-
  CrcMath
-/
set_option linter.unusedVariables false
set_option linter.unusedSimpArgs false
namespace Go.Proofs.Ytlipgnenbdchmaa.crc
set_option maxRecDepth 20000

/-- one place down. -/
def down (x:Nat):Nat:=if x % 2=1 then (x / 2) ^^^ 3988292384 else x / 2
def downs:Nat→Nat→Nat
  | 0,x=>x
  | k+1,x=>downs k (down x)
/-- a byte comes to it. -/
def byte (x b:Nat):Nat:=downs 8 (x ^^^ b)
def bytes (x:Nat) (l:List Nat):Nat:=l.foldl byte x
/-- what the sum would be,behind bytes of that sum. -/
def more (s:Nat) (l:List Nat):Nat:=bytes (s ^^^ 4294967295) l ^^^ 4294967295

theorem down_even (x:Nat) (h:x % 2=0):down x=x / 2:=by unfold down;rw [if_neg (by omega)]
theorem down_odd (x:Nat) (h:x % 2=1):down x=(x / 2) ^^^ 3988292384:=by unfold down;rw [if_pos h]

theorem xor_lt {a b:Nat} (ha:a < 4294967296) (hb:b < 4294967296):a ^^^ b < 4294967296:=Nat.xor_lt_two_pow (n:=32) ha hb
theorem down_lt {x:Nat} (h:x < 4294967296):down x < 4294967296:=by
  rcases Nat.mod_two_eq_zero_or_one x with e | e
  · rw [down_even x e];omega
  · rw [down_odd x e];exact xor_lt (by omega) (by omega)
theorem downs_lt (k:Nat) {x:Nat} (h:x < 4294967296):downs k x < 4294967296:=by
  induction k generalizing x with
  | zero=>exact h
  | succ k ih=>exact ih (down_lt h)
theorem byte_lt {x b:Nat} (h:x < 4294967296) (hb:b < 4294967296):byte x b < 4294967296:=downs_lt 8 (xor_lt h hb)
/-- a row that is turned from its beginning on,one place more. -/
theorem mix_set (T X:List Nat) (i x:Nat) (hl:T.length=X.length) (h:T[i]?=some x):(T.take i++X.drop i).set i x=T.take (i+1)++X.drop (i+1):=by
  obtain ⟨hi,rfl⟩:=List.getElem?_eq_some_iff.1 h
  have e:(T.take i).length=i:=by rw [List.length_take];omega
  rw [List.set_append_right _ _ (by omega),e,Nat.sub_self,List.drop_eq_getElem_cons (show i < X.length by omega),List.set_cons_zero,List.take_succ_eq_append_getElem hi,List.append_assoc]
  rfl
end Go.Proofs.Ytlipgnenbdchmaa.crc
