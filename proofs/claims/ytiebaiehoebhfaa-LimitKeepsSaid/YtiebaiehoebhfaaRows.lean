/-
  No cell of these rows narrows 'for every input' (looked for: loops, veiled, ifaces, maps, wideKeys, modest, calm, conditions, laid).
  DERIVED. THE GIVEN ROWS OF THIS SEAT. 3 by the template 'for every input the law returns true; each argument reads behind the call as it read before'; 0 by the template 'total and deterministic' (their statements: YtiebaiehoebhfaaTotals.lean).
  GIVEN WITH THE SEED: the statements are not yours to turn. If you find one false, say at which input.
  Laid BY PROGRAM, IN A SANDBOX (cutbox-rows.mjs): the forced cells as the released guide's own fill.sh prints them over the translation a3624190453acb33… (all of the seat's roots in one cut). By AI agents, Wed Nov 11 2026. No macro, syntax, notation, axiom, sorry.
-/
import Derived.Test.YtiebaiehoebhfaaChecked
import GoSem.Claim
import GoSem.ClaimJoined
import GoSem.ClaimMapViews
import Derived.JoinedTies
import Derived.KernelRfl
namespace Go.Proofs.Ytiebaiehoebhfaa
/- THE CELL 'sum', in the pinned program and in every row, IS THE sha256 OF THE DUMP (.gsa) THAT YtiebaiehoebhfaaProg.lean LOADS. Nothing in Lean hashes anything: it is a label: what it is worth is what the hold of that sum in a sandbox is worth. -/
noncomputable def Try.pinned : Pinned := { name := "ytiebaiehoebhfaa", sum := "a3624190453acb33d22fd0b3c565a476bd1c64f4e2c6c67c6655997c0db13522", checked := Try.checked }
namespace Rows
def none {H : Type} : Left H := { results := [], args := [] }

/-- 'snafflelaw09.LimitRight': WHATEVER THE INPUT: true; the input reads as it did. -/
def limitRightSpec : ChangeSpec := { name := "limitRight", fn := fun _ => fun
  | [d1, d2, d3, d4, d5, d6, d7] => { results := [.lit (.bool true)], args := [d1, d2, d3, d4, d5, d6, d7] }
  | _ => none }
def limitRightRow : OpenClaim := { program := "ytiebaiehoebhfaa", sum := "a3624190453acb33d22fd0b3c565a476bd1c64f4e2c6c67c6655997c0db13522", func := "snaffle/snafflelaw09.LimitRight", spec := "limitRight", apart := false }
def LimitRightSaid : Prop := limitRightRow.holds Try.pinned (OpenSpec.ofChange limitRightSpec)

/-- ITS FALSE NEIGHBOUR: 'it returns false'. Refute it at one input. -/
def limitRightWrong : ChangeSpec := { name := "limitRight", fn := fun _ => fun
  | [d1, d2, d3, d4, d5, d6, d7] => { results := [.lit (.bool false)], args := [d1, d2, d3, d4, d5, d6, d7] }
  | _ => none }
def LimitRightWrongFalsely : Prop := limitRightRow.holds Try.pinned (OpenSpec.ofChange limitRightWrong)

/-- 'snafflelaw09.LimitKeeps': WHATEVER THE INPUT: true; the input reads as it did. -/
def limitKeepsSpec : ChangeSpec := { name := "limitKeeps", fn := fun _ => fun
  | [d1, d2, d3, d4] => { results := [.lit (.bool true)], args := [d1, d2, d3, d4] }
  | _ => none }
def limitKeepsRow : OpenClaim := { program := "ytiebaiehoebhfaa", sum := "a3624190453acb33d22fd0b3c565a476bd1c64f4e2c6c67c6655997c0db13522", func := "snaffle/snafflelaw09.LimitKeeps", spec := "limitKeeps", apart := false }
def LimitKeepsSaid : Prop := limitKeepsRow.holds Try.pinned (OpenSpec.ofChange limitKeepsSpec)

/-- ITS FALSE NEIGHBOUR: 'it returns false'. Refute it at one input. -/
def limitKeepsWrong : ChangeSpec := { name := "limitKeeps", fn := fun _ => fun
  | [d1, d2, d3, d4] => { results := [.lit (.bool false)], args := [d1, d2, d3, d4] }
  | _ => none }
def LimitKeepsWrongFalsely : Prop := limitKeepsRow.holds Try.pinned (OpenSpec.ofChange limitKeepsWrong)

/-- 'snafflelaw09.LimitSteps': WHATEVER THE INPUT: true; the input reads as it did. -/
def limitStepsSpec : ChangeSpec := { name := "limitSteps", fn := fun _ => fun
  | [d1, d2, d3, d4, d5, d6] => { results := [.lit (.bool true)], args := [d1, d2, d3, d4, d5, d6] }
  | _ => none }
def limitStepsRow : OpenClaim := { program := "ytiebaiehoebhfaa", sum := "a3624190453acb33d22fd0b3c565a476bd1c64f4e2c6c67c6655997c0db13522", func := "snaffle/snafflelaw09.LimitSteps", spec := "limitSteps", apart := false }
def LimitStepsSaid : Prop := limitStepsRow.holds Try.pinned (OpenSpec.ofChange limitStepsSpec)

/-- ITS FALSE NEIGHBOUR: 'it returns false'. Refute it at one input. -/
def limitStepsWrong : ChangeSpec := { name := "limitSteps", fn := fun _ => fun
  | [d1, d2, d3, d4, d5, d6] => { results := [.lit (.bool false)], args := [d1, d2, d3, d4, d5, d6] }
  | _ => none }
def LimitStepsWrongFalsely : Prop := limitStepsRow.holds Try.pinned (OpenSpec.ofChange limitStepsWrong)

/- THE SECOND FORM. 'bulk': how many values and letters a reading holds, each counted each time it is reached (what is shared counts as often as it is met; a slice's spare places count too). A statement '..UptoSaid' is the law's where the arguments, and the package variables that the reading takes, are together of bulk at most 1048576: NARROWER than '..Said'. Prove '..Said' where nothing that the law and all that it calls make is longer than what came in: it says more and counts as full. Else prove '..UptoSaid'. A law counts once. -/
mutual
def uptoBulk {H : Type} : DataW H → Nat
  | .lit (.string bytes) => bytes.length + 1
  | .lit _ => 1
  | .nil => 1
  | .ptr d => uptoBulk d + 1
  | .slice elems spare => uptoBulkAll elems + uptoBulkAll spare + 1
  | .agg parts => uptoBulkAll parts + 1
  | .iface _ d => uptoBulk d + 1
  | .map entries => uptoBulkEntries entries + 1
  | .held _ => 1
def uptoBulkAll {H : Type} : List (DataW H) → Nat
  | [] => 0
  | d :: r => uptoBulk d + uptoBulkAll r
def uptoBulkEntries {H : Type} : List (Lit × DataW H) → Nat
  | [] => 0
  | x :: r => uptoBulkEntry x + uptoBulkEntries r
def uptoBulkEntry {H : Type} : Lit × DataW H → Nat
  | (.string bytes, d) => bytes.length + uptoBulk d + 1
  | (_, d) => uptoBulk d + 1
 end
def uptoSmall : (H : Type) → List (DataW H) → Bool := fun _ ds => decide (uptoBulkAll ds ≤ 1048576)
def OpenSpec.upto (s : _root_.Go.ChangeSpec) : _root_.Go.OpenSpec := { _root_.Go.OpenSpec.ofChange s with cond := some uptoSmall }

/-- 'snafflelaw09.LimitRight', WHERE WHAT IT READS IS OF BULK AT MOST 1048576: true; the input reads as it did. -/
def limitRightUptoRow : OpenClaim := { program := "ytiebaiehoebhfaa", sum := "a3624190453acb33d22fd0b3c565a476bd1c64f4e2c6c67c6655997c0db13522", func := "snaffle/snafflelaw09.LimitRight", spec := "limitRight", apart := false, narrowed := true }
def LimitRightUptoSaid : Prop := limitRightUptoRow.holds Try.pinned (OpenSpec.upto limitRightSpec)

/-- 'snafflelaw09.LimitKeeps', WHERE WHAT IT READS IS OF BULK AT MOST 1048576: true; the input reads as it did. -/
def limitKeepsUptoRow : OpenClaim := { program := "ytiebaiehoebhfaa", sum := "a3624190453acb33d22fd0b3c565a476bd1c64f4e2c6c67c6655997c0db13522", func := "snaffle/snafflelaw09.LimitKeeps", spec := "limitKeeps", apart := false, narrowed := true }
def LimitKeepsUptoSaid : Prop := limitKeepsUptoRow.holds Try.pinned (OpenSpec.upto limitKeepsSpec)

/-- 'snafflelaw09.LimitSteps', WHERE WHAT IT READS IS OF BULK AT MOST 1048576: true; the input reads as it did. -/
def limitStepsUptoRow : OpenClaim := { program := "ytiebaiehoebhfaa", sum := "a3624190453acb33d22fd0b3c565a476bd1c64f4e2c6c67c6655997c0db13522", func := "snaffle/snafflelaw09.LimitSteps", spec := "limitSteps", apart := false, narrowed := true }
def LimitStepsUptoSaid : Prop := limitStepsUptoRow.holds Try.pinned (OpenSpec.upto limitStepsSpec)

end Rows
end Go.Proofs.Ytiebaiehoebhfaa
